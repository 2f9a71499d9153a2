import PyProof.Rows.All
import Wide.All
import OpenK.AllK
import Wide.FinOn
import Lean
import PyProof.EqAt
import PyProof.EqKinds
import PyProof.TupleCall
import KE.KSortTup
import PyProof.PureStr
import KE.KLam
import KE.KNestM
import PyProof.DictItems
import PyProof.DictValues
import PyProof.DictWalks
import KE.KRevIter
import KE.KTryDeep
import KE.KTryOn
import OpenK.KOwn
import PyProof.FString
import PyProof.RulesAs
import PyProof.NsDelKeeps
import KE.KTryMore
import KE.KIsAll
import PyProof.MeetsSeq
import PySem.Challenge.RW_turnery_k25_trees_of_no_kind
set_option hygiene false
set_option compiler.extract_closed false
local macro_rules|`((0:))=>`((by decide +kernel))
local macro_rules|`((1:))=>`(⟨rfl,rfl,rfl,by decide +kernel,rfl,by decide +kernel,by decide +kernel⟩)
local macro_rules|`((2:))=>`((fun _ _=>rfl))
local macro_rules|`((3:))=>`((vS "law_turnery_k25_trees_of_no_kind" 489))
local macro_rules|`((4:))=>`((fun cdv A outer s H vs Q E hr h=>?_))
local macro_rules|`((5:))=>`((B (oT #[]) N N))
local macro_rules|`((6:))=>`((model X.prog X.w))
local macro_rules|`((7:))=>`((Nat.le_refl _))
local macro_rules|`((8:))=>`((fun vs H Q E h=>?_))
local macro_rules|`((9:))=>`((Addr × Obj))
local macro_rules|`((10:))=>`((by lia))
local macro_rules|`((11:))=>`((envOfC qual scope s.heap.objs.size f cd))
local macro_rules|`((12:))=>`((Or.inl rfl))
local macro_rules|`((13:))=>`(⟨by decide,by decide⟩)
local macro_rules|`((14:))=>`((∀ b o,b≠zp→b≠tu→b≠j1→b≠j2→s.heap.get? b=some o→h'.get? b=some o))
local macro_rules|`((15:))=>`((by show 0≤sizeLine;decide))
local macro_rules|`((16:))=>`(((s.heap.update a (Obj.mapSeq fun _=>(#[]:Array Value))).push (seqObj "tuple" vs.toArray 0)))
local macro_rules|`((17:))=>`((model prog w))
local macro_rules|`((18:))=>`(⟨I.ok.mod,I.ok.kind,I.ok.glob,I.ok.blt,I.ok.above,I.ok.inj,I.ok.has,I.ok.cab,I.ok.hd,I.ok.frames,I.ok.stk,I.ok.exf,I.ok.bs,I.ok.bsz,I.ok.noex,I.ok.exfs,I.ok.funs,I.ok.frf⟩)
local macro_rules|`((19:))=>`(⟨.ref s.heap.objs.size,_,I2,rfl,⟨s.heap.objs.size,_,_,I.fresh,rfl,rfl,ex,ey⟩,⟨hz',hs'.extBut _ _ Ap.TIz (hk _ _ Ap.TIz Ap.TITO Ap.TIi1 Ap.TIi2 hTI),⟨_,_,hs'.extBut _ _ Ap.TOz a2⟩,a3.extBut hs'.extBut Ap.i1z,a4.extBut hs'.extBut Ap.i2z⟩,hfr⟩)
local macro_rules|`((20:))=>`((QV X (xs ++ caps) scope cl s3.heap.objs.size fp s3 H3))
local macro_rules|`((21:))=>`((by show 3≤sizeLine;decide))
local macro_rules|`((22:))=>`((Nat.le_trans (Nat.min_le_right _ _) (by simp [PyData.depth,PyData.depthAll])))
local macro_rules|`((23:))=>`((∀ σ' H',N σ' H'→∃ m',m' < m∧W (i + 1) m' σ' H'))
local macro_rules|`((24:))=>`((by simp))
local macro_rules|`((25:))=>`((Qj Qk (pv 0) Qd (2:)))
local macro_rules|`((26:))=>`(⟨_,rfl,tu,_,0,_,rfl,rfl,hA.at'.tu,rfl,_,rfl,wd,rv,t,T.ks,k0,rfl,hA.at'.w,hA.ok.wo,hk0,hA.tr,hA.lv,by rw [ek0];exact hR.r,fun his H1 g1=>?_,fun his H1 g1=>q1 (by rw [← ek0];exact his) H1 (SX3.of g1) (htb.same g1)⟩)
local macro_rules|`((27:))=>`((by decide))
local macro_rules|`((28:))=>`(⟨fun vs H Q E h=>absurd h (no vs H Q E),fun A outer s H args us vs Q E _ _ _ _ h=>absurd h (no vs H Q E)⟩)
local macro_rules|`((29:))=>`((by rw [List.length_map];lia))
local macro_rules|`((30:))=>`((QV X (xs ++ caps) scope cl C fp s₀ H₀))
local macro_rules|`((31:))=>`((fun r s'=>r=.ok (.ret (.bool true))∧OldK s₁.heap s'.heap∧s'.os=s₁.os∧AllBare s'.gens))
local macro_rules|`((32:))=>`((by intro z;cases z))
local macro_rules|`((33:))=>`((CompG.many (xs:=["_law_kind", "_law_rows"]) (caps:=[]) (cap:=[]) (cs:=[]) rfl rfl (0:) (0:) (0:) (0:) (0:) (0:) rfl rfl rfl))
local macro_rules|`((34:))=>`((vS "turnery.counting" 377))
local macro_rules|`((35:))=>`((B (oE) N N))
local macro_rules|`((36:))=>`(⟨rfl,I.turned (t':=s.toks) (fun b o hb e=>eb b o hb e) f0 f1 f3 f4 f5⟩)
local macro_rules|`((37:))=>`((Z4 (CX1 P w) P w K mg base N qual scope f cd A outer s H E))
local macro_rules|`((38:))=>`((List.mem_cons_of_mem _ hu))
local macro_rules|`((39:))=>`((oT #[]))
local macro_rules|`((40:))=>`((((NR (ns'.set spot { n8 with ch:=n8.ch ++ [ns.length + j] })).length:Nat):Int))
local macro_rules|`((41:))=>`((x == ("__debug__" : Str)))
local macro_rules|`((42:))=>`((.ListComp elt [⟨tg,iter,ifs,0⟩] scope pos))
local macro_rules|`((43:))=>`((fun z=>nomatch z))
local macro_rules|`((44:))=>`((by show 2≤sizeLine;decide))
local macro_rules|`((45:))=>`((by show 1≤sizeLine;decide))
local macro_rules|`((46:))=>`((Heap.get?_push_size _ rfl))
local macro_rules|`((47:))=>`((ms.map fun m=>V.ref m.1))
local macro_rules|`((48:))=>`(⟨o,e,fun v z=>by rw [d] at z;cases z⟩)
local macro_rules|`((49:))=>`((Qr Qo rfl G.len PySem.boot_len (Qa (pv 4) Qc)))
local macro_rules|`((50:))=>`((thn (ha pos pins s σ H _ I h) fun us s1 ⟨vs,H1,I1,r1,q1⟩=>?_))
local macro_rules|`((51:))=>`((fun y H6=>∃ ys,H6 acc=some (.lst ys)∧ys.length < sizeLine∧∃ m',m' < m∧W (i + 1) m' (upd H6 acc (.lst (ys ++ [y])))))
local macro_rules|`((52:))=>`(⟨k z (24:) _ hz,k TI (24:) _ hTI,⟨u,v,k TO (24:) _ hTO⟩,h1.at fun o e=>k i1 (24:) o e,h2.at fun o e=>k i2 (24:) o e⟩)
local macro_rules|`((53:))=>`((.node name mark ts))
local macro_rules|`((54:))=>`(⟨_,rfl⟩)
local macro_rules|`((55:))=>`(⟨_,Heap.get?_push_size _ rfl,rfl,rfl⟩)
local macro_rules|`((56:))=>`((Qa (pv 1) Qc))
local macro_rules|`((57:))=>`((.ref s.heap.objs.size))
local macro_rules|`((58:))=>`((Heap.lt_size e))
local macro_rules|`((59:))=>`(⟨fun i m σ H=>m=xs.length - i∧i≤xs.length∧Pv i σ H,⟨xs.length - 0,rfl,Nat.zero_le _,h0⟩,?_⟩)
noncomputable section
set_option Elab.async false
set_option linter.all false
set_option maxRecDepth 100000
namespace L2
open PySem PySem.Spec PyProof.Rows
abbrev Key:=Sum Int Str
def Jy:Key→Value→Bool
 | .inl k,v=>Value.isInt k v
 | .inr x,v=>Value.isStrOf x v
def Se (w:World):Key→Int
 | .inl k=>hashInt k
 | .inr x=>hashStr w x
theorem QM:∀ {k:Key} {v:Value},Jy k v=true→(∃ i t,k=Sum.inl i∧v=Value.int i t)∨(∃ x t,k=Sum.inr x∧v=Value.str x t)
 | .inl i,v,h=>by
  obtain ⟨t,e⟩:=Value.isInt_shape (k:=i) (v:=v) h
  exact .inl ⟨i,t,rfl,e⟩
 | .inr x,v,h=>by
  obtain ⟨t,e⟩:=Value.isStrOf_shape (x:=x) (v:=v) h
  exact .inr ⟨x,t,rfl,e⟩
theorem VX (i:Int) (t:Tok):Jy (.inl i) (.int i t)=true:=by simp [Jy,Value.isInt]
theorem Gq (x:Str) (t:Tok):Jy (.inr x) (.str x t)=true:=by simp [Jy,Value.isStrOf]
theorem OO (a b:Int):decide ((Sum.inl a:Key)=Sum.inl b)=(a == b):=by
 by_cases e:a=b
 ·subst e;simp
 ·have h:¬ (Sum.inl a:Key)=Sum.inl b:=fun q=>e (Sum.inl.inj q)
  rw [decide_eq_false h]
  exact (beq_eq_false_iff_ne.mpr e).symm
theorem O0 (a b:Str):decide ((Sum.inr a:Key)=Sum.inr b)=decide (a=b):=by
 by_cases e:a=b
 ·subst e;simp
 ·have h:¬ (Sum.inr a:Key)=Sum.inr b:=fun q=>e (Sum.inr.inj q)
  rw [decide_eq_false h,decide_eq_false e]
theorem PV (a:Int) (b:Str):decide ((Sum.inl a:Key)=Sum.inr b)=false:=decide_eq_false (fun q=>nomatch q)
theorem OW (a:Str) (b:Int):decide ((Sum.inr a:Key)=Sum.inl b)=false:=decide_eq_false (fun q=>nomatch q)
def Qt (prog:Program) (w:World):PySem.KeyKind prog w Key where
 is:=Jy
 hash:=Se w
 inj:=fun v a b ha hb=>by
  rcases QM ha with ⟨i,t,rfl,rfl⟩ | ⟨x,t,rfl,rfl⟩
  ·rcases QM hb with ⟨j,u,rfl,e⟩ | ⟨y,u,rfl,e⟩
   ·injection e with e1 _;rw [e1]
   ·exact nomatch e
  ·rcases QM hb with ⟨j,u,rfl,e⟩ | ⟨y,u,rfl,e⟩
   ·exact nomatch e
   ·injection e with e1 _;rw [e1]
 byValue:=fun k v h=>by
  rcases QM h with ⟨i,t,rfl,rfl⟩ | ⟨x,t,rfl,rfl⟩ <;> rfl
 pyHash:=fun hv h=>by
  rcases QM hv with ⟨i,t,rfl,rfl⟩ | ⟨x,t,rfl,rfl⟩
  ·exact wpAny_pyHash_int h
  ·exact wpAny_pyHash_str h
 eqBool:=fun hu hv h=>by
  rcases QM hu with ⟨i,t,rfl,rfl⟩ | ⟨x,t,rfl,rfl⟩
  ·rcases QM hv with ⟨j,u,rfl,rfl⟩ | ⟨y,u,rfl,rfl⟩
   ·rw [OO] at h;exact wpAny_eqBool_int h
   ·rw [PV] at h;exact SeqAt.EqAt.int_str i t y u _ _ _ _ h
  ·rcases QM hv with ⟨j,u,rfl,rfl⟩ | ⟨y,u,rfl,rfl⟩
   ·rw [OW] at h;exact SeqAt.EqAt.str_int x t j u _ _ _ _ h
   ·rw [O0] at h;exact wpAny_eqBool_str h
 «strs»:=fun k x t v h=>by
  rcases QM h with ⟨i,u,rfl,e⟩ | ⟨y,u,rfl,e⟩
  ·exact nomatch e
  ·injection e with e1 _
   subst e1
   cases v <;> rfl
theorem X9 (prog:Program) (w:World) (i:Int) (t:Tok):(Qt prog w).is (.inl i) (.int i t)=true:=VX i t
theorem Wu (prog:Program) (w:World) (x:Str) (t:Tok):(Qt prog w).is (.inr x) (.str x t)=true:=Gq x t
end L2
namespace L2
open PySem PySem.Spec PyProof.Rows
inductive V where
 | non | bl (b:Bool) | int (i:Int) | str (x:Str) | byt (b:Array UInt8) | flt (b:UInt64) | ref (a:Addr) | ty (n:String)
 deriving DecidableEq
def RelV:V→Value→Prop
 | .non,u=>u=Value.none
 | .bl b,u=>u=Value.bool b
 | .int i,u=>∃ t,u=Value.int i t
 | .str x,u=>∃ t,u=Value.str x t
 | .byt b,u=>∃ t,u=Value.bytes b t
 | .flt b,u=>∃ t,u=Value.float b t
 | .ref a,u=>u=Value.ref a
 | .ty n,u=>u=Value.type n
abbrev Vals:List V→List Value→Prop:=Paired RelV
theorem Vals.length {xs:List V} {us:List Value} (r:Vals xs us):xs.length=us.length:=Paired.length r
theorem Vals.get:∀ {xs:List V} {us:List Value} {i:Nat} {x:V},Vals xs us→xs[i]?=some x→∃ u,us[i]?=some u∧RelV x u
 | _,_,_,_,.nil,e=>by simp at e
 | _,_,0,_,.cons r _,e=>by simp at e;subst e;exact ⟨_,rfl,r⟩
 | _,_,i + 1,x,.cons _ t,e=>by
  obtain ⟨u,h1,h2⟩:=Vals.get (i:=i) (x:=x) t (by simpa using e)
  exact ⟨u,by simpa using h1,h2⟩
theorem Vals.set {x:V} {u:Value} (r:RelV x u):∀ {xs:List V} {us:List Value} (i:Nat),Vals xs us→Vals (xs.set i x) (us.set i u)
 | _,_,_,.nil=>.nil
 | _,_,0,.cons _ t=>.cons r t
 | _,_,i + 1,.cons q t=>.cons q (Vals.set r i t)
theorem Vals.append:∀ {xs ys:List V} {us ws:List Value},Vals xs us→Vals ys ws→Vals (xs ++ ys) (us ++ ws)
 | _,_,_,_,.nil,s=>s
 | _,_,_,_,.cons r t,s=>.cons r (Vals.append t s)
theorem Vals.take:∀ {xs:List V} {us:List Value} (n:Nat),Vals xs us→Vals (xs.take n) (us.take n)
 | _,_,0,_=>.nil
 | _,_,_ + 1,.nil=>.nil
 | _,_,n + 1,.cons r t=>.cons r (Vals.take n t)
theorem Vals.drop:∀ {xs:List V} {us:List Value} (n:Nat),Vals xs us→Vals (xs.drop n) (us.drop n)
 | _,_,0,r=>r
 | _,_,_ + 1,.nil=>.nil
 | _,_,n + 1,.cons _ t=>Vals.drop n t
def RelO:Option V→Option Value→Prop
 | some v,some u=>RelV v u
 | none,none=>True
 | _,_=>False
def KV {κ:Type}:List (κ × V)→List (κ × Value)→Prop:=Paired fun (p:κ × V) (q:κ × Value)=>p.1=q.1∧RelV p.2 q.2
def kV:Key→V
 | .inl i=>.int i
 | .inr x=>.str x
inductive HO where
 /-- a list -/
 | lst (xs:List V)
 /-- a tuple (never changes) -/
 | tup (xs:List V)
 /-- a dict whose keys are ints and texts;one whose keys are tuples of ints and texts (the empty one is both) -/
 | dK (kvs:List (Key × V)) | dT (kvs:List (List Key × V))
 /-- a set of ints: its members,its size -/
 | set (S:Int→Bool) (n:Nat)
 /-- an instance of the class at C,its dict at dx,its attributes -/
 | ins (C dx:Addr) (fs:List (Str × V))
 /-- the dict of the instance at x -/
 | own (x:Addr)
 /-- the dict of an exception -/
 | xd (fs:List (Str × V))
 /-- a bound method,f of x -/
 | met (f x:Addr)
 /-- a range object lo,lo + 1,.. below hi -/
 | rng (lo hi:Int)
 /-- a thing that is known to the object (the script;a dict while a loop walks it): read,never written while it is so -/
 | frz (o:Obj) (u:HO)
 /-- a code object's table -/
 | tbl (ps:Array Value)
 /-- any other thing,by what is true of its one object (a def of one's own: SetO a S n:=HO.ext fun h=>..) -/
 | ext (φ:Heap→Prop)
abbrev Hp:=Addr→Option HO
def upd (H:Hp) (a:Addr) (o:HO):Hp:=fun b=>if b=a then some o else H b
theorem Qb {H:Hp} {a:Addr} {o:HO}:upd H a o a=some o:=by unfold upd;rw [if_pos rfl]
theorem Qg {H:Hp} {a b:Addr} {o:HO} (h:b≠a):upd H a o b=H b:=by unfold upd;rw [if_neg h]
theorem QS {H:Hp} {a b:Addr} {o u:HO} (h:H a=some o) (h':H b=some u) (d:o≠u):a≠b:=by
 intro e;subst e;rw [h] at h';exact d (Option.some.inj h')
theorem Qi {H:Hp} {a b:Addr} {o:HO} (h:H a=some o) (h':H b=none):a≠b:=by
 intro e;subst e;rw [h] at h';cases h'
section
variable (P:Program) (w:World)
def ObjOk (H:Hp) (h:Heap) (a:Addr):HO→Prop
 | .lst xs=>xs.length≤sizeLine∧∃ (its:List Value) (n:Nat),Vals xs its∧h.get? a=some { cls:=.type "list", data:=.seq its.toArray n }
 | .tup xs=>xs.length≤sizeLine∧∃ its:List Value,Vals xs its∧IsTup h a its.toArray
 | .dK kvs=>kvs.length≤sizeLine∧(a == sysModules)=false∧∃ vs,KV kvs vs∧h.DictOf (Qt P w) a vs
 | .dT kvs=>kvs.length≤sizeLine∧(a == sysModules)=false∧∃ xs:List (List Key × Addr × Value),
  Paired (fun (p:List Key × V) (q:List Key × Addr × Value)=>p.1=q.1∧H q.2.1=some (.tup (p.1.map kV))∧RelV p.2 q.2.2) kvs xs ∧
  ∃ o es ep,h.get? a=some o∧o.ExactDict∧o.data=.dict es ep∧es.toList=xs.map (entryOfKey (tupleKind (Qt P w)))∧(xs.map (·.1)).Nodup
 | .set S n=>h.SetOf (intKind P w) a S n
 | .ins C dx fs=>H dx=some (.own a)∧fs.length≤1000∧dx≠a∧h.get? a=some (PySem.W.instObj C dx) ∧
  ∃ mA,h.Ns1 dx mA∧(∀ f,RelO (fs.lookup f) (mA f))∧PySem.Within mA (fs.map (·.1))
 | .own _=>∃ o,h.get? a=some o
 | .xd fs=>∃ mA,h.Ns1 a mA∧∀ f,RelO (fs.lookup f) (mA f)
 | .rng lo hi=>∃ t u v,h.get? a=some { cls:=.type "range", data:=.fields #[.int lo t,.int hi u,.int 1 v] }
 | .frz o u=>h.get? a=some o∧ObjOk H h a u
 | .tbl ps=>h.get? a=some { cls:=.none,data:=.fields ps }
 | .met f x=>h.get? a=some (PySem.W.methodObj (.ref f) (.ref x))
 | .ext φ=>φ h∧(∃ o,h.get? a=some o)∧∀ h1 h2:Heap,φ h1→(∀ o,h1.get? a=some o→h2.get? a=some o)→φ h2
def HOk (H:Hp) (h:Heap):Prop:=∀ a o,H a=some o→ObjOk P w H h a o
end
section
variable {P:Program} {w:World} {H H':Hp} {h h':Heap} {a:Addr} {o:HO}
theorem ObjOk.lt (x:ObjOk P w H h a o):a < h.objs.size:=by
 cases o with
 | lst xs=>obtain ⟨_,_,_,_,e⟩:=x;exact Heap.lt_size e
 | tup xs=>obtain ⟨_,_,_,p⟩:=x;exact p.lt
 | dK kvs=>obtain ⟨_,_,_,_,o,_,_,e,_⟩:=x;exact Heap.lt_size e
 | dT kvs=>obtain ⟨_,_,_,_,o,_,_,e,_⟩:=x;exact Heap.lt_size e
 | set S n=>obtain ⟨o,_,_,_,e,_⟩:=x;exact Heap.lt_size e
 | ins C dx fs=>obtain ⟨_,_,_,e,_⟩:=x;exact Heap.lt_size e
 | own y=>obtain ⟨_,e⟩:=x;exact Heap.lt_size e
 | xd fs=>obtain ⟨_,⟨_,_,_,e,_⟩,_⟩:=x;exact Heap.lt_size e
 | rng lo hi=>obtain ⟨_,_,_,e⟩:=x;exact Heap.lt_size e
 | frz ob u=>obtain ⟨e,_⟩:=x;exact Heap.lt_size e
 | tbl ps=>exact Heap.lt_size (show h.get? a=some _ from x)
 | met f y=>exact Heap.lt_size (show h.get? a=some _ from x)
 | ext φ=>obtain ⟨_,⟨_,e⟩,_⟩:=x;exact Heap.lt_size e
theorem Paired.mapP {α β:Type} {F G:α→β→Prop}:∀ {l₁:List α} {l₂:List β},Paired F l₁ l₂→(∀ a b,F a b→G a b)→Paired G l₁ l₂
 | _,_,.nil,_=>.nil
 | _,_,.cons r t,f=>.cons (f _ _ r) (Paired.mapP t f)
theorem ObjOk.stay (x:ObjOk P w H h a o) (k:∀ b u,(b=a∨H b=some (.own a))→h.get? b=some u→h'.get? b=some u)
 (ho:∀ b,H b=some (.own a)→H' b=some (.own a)) (ht:∀ b xs,H b=some (.tup xs)→H' b=some (.tup xs)):ObjOk P w H' h' a o:=by
 induction o with
 | lst xs=>obtain ⟨z,its,n,r,e⟩:=x;exact ⟨z,its,n,r,k _ _ (.inl rfl) e⟩
 | tup xs=>obtain ⟨z,its,r,ob,e,c⟩:=x;exact ⟨z,its,r,ob,k _ _ (.inl rfl) e,c⟩
 | dK kvs=>obtain ⟨z,y,vs,r,ob,es,ep,e,c⟩:=x;exact ⟨z,y,vs,r,ob,es,ep,k _ _ (.inl rfl) e,c⟩
 | dT kvs =>
  obtain ⟨z,y,xs,r,ob,es,ep,e,c⟩:=x
  exact ⟨z,y,xs,Paired.mapP r fun p q z=>⟨z.1,ht _ _ z.2.1,z.2.2⟩,ob,es,ep,k _ _ (.inl rfl) e,c⟩
 | set S n=>obtain ⟨ob,es,ep,t,e,c⟩:=x;exact ⟨ob,es,ep,t,k _ _ (.inl rfl) e,c⟩
 | ins C dx fs =>
  obtain ⟨d,z,ne,e,mA,⟨od,es,ep,e2,c⟩,r⟩:=x
  exact ⟨ho _ d,z,ne,k _ _ (.inl rfl) e,mA,⟨od,es,ep,k _ _ (.inr d) e2,c⟩,r⟩
 | own y=>obtain ⟨ob,e⟩:=x;exact ⟨ob,k _ _ (.inl rfl) e⟩
 | xd fs=>obtain ⟨mA,⟨od,es,ep,e,c⟩,r⟩:=x;exact ⟨mA,⟨od,es,ep,k _ _ (.inl rfl) e,c⟩,r⟩
 | rng lo hi=>obtain ⟨t,u,v,e⟩:=x;exact ⟨t,u,v,k _ _ (.inl rfl) e⟩
 | frz ob u ih=>obtain ⟨e,q⟩:=x;exact ⟨k _ _ (.inl rfl) e,ih q⟩
 | tbl ps =>
  have e:h.get? a=some { cls:=.none,data:=.fields ps }:=x
  show h'.get? a=some { cls:=.none,data:=.fields ps }
  exact k a _ (.inl rfl) e
 | met f y =>
  have e:h.get? a=some (PySem.W.methodObj (.ref f) (.ref y)):=x
  show h'.get? a=some (PySem.W.methodObj (.ref f) (.ref y))
  exact k a _ (.inl rfl) e
 | ext φ=>obtain ⟨p,⟨o,e⟩,st⟩:=x;exact ⟨st _ _ p fun o q=>k _ _ (.inl rfl) q,⟨o,k _ _ (.inl rfl) e⟩,st⟩
theorem HOk.lt (x:HOk P w H h) (e:H a=some o):a < h.objs.size:=(x a o e).lt
theorem HOk.fresh (x:HOk P w H h) (e:h.objs.size≤a):H a=none:=by
 cases q:H a with
 | none=>rfl
 | some u=>exact absurd (Nat.lt_of_lt_of_le (x.lt q) e) (Nat.lt_irrefl _)
theorem HOk.kept (x:HOk P w H h) (k:∀ b u,h.get? b=some u→h'.get? b=some u):HOk P w H h':=fun a o e =>
 (x a o e).stay (fun b u _ q=>k b u q) (fun _ q=>q) fun _ _ q=>q
theorem HOk.laid (x:HOk P w H h) (k:∀ b u,h.get? b=some u→h'.get? b=some u) (hp:h.objs.size≤a) (new:ObjOk P w (upd H a o) h' a o):HOk P w (upd H a o) h':=fun b u e=>by
 have hn:=x.fresh hp
 by_cases hb:b=a
 ·subst hb;rw [Qb] at e;cases e;exact new
 ·rw [Qg hb] at e
  exact (x b u e).stay (fun c v _ q=>k c v q) (fun c q=>by rw [Qg (Qi q hn)];exact q) fun c xs q=>by rw [Qg (Qi q hn)];exact q
end
def Rd (H:Hp) (a:Addr) (u:HO):Prop:=H a=some u∨∃ o,H a=some (.frz o u)
theorem Rd.ok {P:Program} {w:World} {H:Hp} {h:Heap} {a:Addr} {u:HO} (r:Rd H a u) (x:HOk P w H h):ObjOk P w H h a u:=by
 rcases r with r | ⟨o,r⟩
 ·exact x a u r
 ·obtain ⟨_,q⟩:=x a _ r
  exact q
def Mut:Option HO→Prop
 | some (.lst _)=>True
 | some (.dK _)=>True
 | some (.dT _)=>True
 | some (.set _ _)=>True
 | some (.ins _ _ _)=>True
 | some (.ext _)=>True
 | _=>False
section
variable {P:Program} {w:World} {H:Hp} {h h':Heap} {x e:Addr} {o':HO}
theorem HOk.write (ok:HOk P w H h) (mu:Mut (H x)) (he:e=x∨H e=some (.own x)) (k:∀ b u,b≠e→h.get? b=some u→h'.get? b=some u) (heo:∃ u,h'.get? e=some u)
 (new:ObjOk P w (upd H x o') h' x o'):HOk P w (upd H x o') h':=fun b u q=>by
 have nown:∀ c y,H c=some (.own y)→c≠x:=fun c y r z=>by subst z;rw [r] at mu;exact mu
 have ntup:∀ c xs,H c=some (.tup xs)→c≠x:=fun c xs r z=>by subst z;rw [r] at mu;exact mu
 by_cases hb:b=x
 ·subst hb;rw [Qb] at q;cases q;exact new
 ·rw [Qg hb] at q
  by_cases hbe:b=e
  ·have q':H b=some (.own x):=by
    rcases he with z | z
    ·exact absurd (hbe.trans z) hb
    ·rw [hbe];exact z
   rw [q] at q';cases q'
   obtain ⟨v,hv⟩:=heo
   exact ⟨v,by rw [hbe];exact hv⟩
  ·refine (ok b u q).stay (fun c v hc r=>k c v ?_ r) (fun c r=>by rw [Qg (nown c b r)];exact r) fun c xs r=>by rw [Qg (ntup c xs r)];exact r
   rcases hc with rfl | hc
   ·exact hbe
   ·rintro rfl
    rcases he with z | z
    ·exact nown c b hc z
    ·rw [hc] at z;cases z;exact hb rfl
end
structure Un (fs ex:List Addr) (H H':Hp) (h h':Heap):Prop where
 keep:∀ b o,h.get? b=some o→H b=none→b ∉ fs→b ∉ ex→h'.get? b=some o
 slot:∀ b o,h.get? b=some o→H b=none→b ∈ fs→b ∉ ex→∃ sl,h'.get? b=some { o with slots:=sl }
 free:∀ b o,h.get? b=some o→H b=none→b ∉ ex→H' b=none
 there:∀ b o,h.get? b=some o→b ∉ ex→∃ o',h'.get? b=some o'
 tups:∀ b xs,H b=some (.tup xs)→H' b=some (.tup xs)
 frzs:∀ b o u,H b=some (.frz o u)→H' b=some (.frz o u)
 tbls:∀ b ps,H b=some (.tbl ps)→∃ more,H' b=some (.tbl (ps ++ more))
section
variable {fs fs' ex ex':List Addr} {H H1 H2:Hp} {h h1 h2 h':Heap} {a x e:Addr} {o:HO}
theorem Un.any (u:Un fs ex H H1 h h1) {b:Addr} {ob:Obj} (q:h.get? b=some ob) (n:H b=none) (hx:b ∉ ex):∃ sl,h1.get? b=some { ob with slots:=sl }:=by
 by_cases hb:b ∈ fs
 ·exact u.slot b ob q n hb hx
 ·exact ⟨ob.slots,u.keep b ob q n hb hx⟩
theorem Un.kept (k:∀ b u,h.get? b=some u→h'.get? b=some u):Un fs ex H H h h' :=
 ⟨fun b ob q _ _ _=>k b ob q,fun b ob q _ _ _=>⟨ob.slots,k b ob q⟩,fun _ _ _ n _=>n,fun b ob q _=>⟨ob,k b ob q⟩,fun _ _ q=>q,fun _ _ _ q=>q,fun _ ps q=>⟨#[],by rw [q];simp⟩⟩
theorem Un.refl:Un fs ex H H h h:=Un.kept fun _ _ q=>q
theorem Un.laid (k:∀ b u,h.get? b=some u→h'.get? b=some u) (hp:h.objs.size≤a) (hn:H a=none):Un fs ex H (upd H a o) h h' where
 keep:=fun b u q _ _ _=>k b u q
 slot:=fun b u q _ _ _=>⟨u.slots,k b u q⟩
 free:=fun b u q n _=>by rw [Qg (Nat.ne_of_lt (Nat.lt_of_lt_of_le (Heap.lt_size q) hp))];exact n
 there:=fun b u q _=>⟨u,k b u q⟩
 tups:=fun b xs q=>by rw [Qg (Qi q hn)];exact q
 frzs:=fun b u xs q=>by rw [Qg (Qi q hn)];exact q
 tbls:=fun b ps q=>⟨#[],by rw [Qg (Qi q hn),q];simp⟩
theorem Un.write (mu:Mut (H x)) (he:e=x∨H e=some (.own x)) (k:∀ b u,b≠e→h.get? b=some u→h'.get? b=some u) (heo:∃ u,h'.get? e=some u):Un fs ex H (upd H x o) h h':=by
 have hx:∀ b,H b=none→b≠x:=fun b n z=>by subst z;rw [n] at mu;exact mu
 have hb:∀ b,H b=none→b≠e:=fun b n z=>by
  subst z
  rcases he with r | r
  ·exact hx b n r
  ·rw [n] at r;cases r
 have hm:∀ b u,H b=some u→¬ Mut (some u)→b≠x:=fun b u q nm z=>by subst z;rw [q] at mu;exact nm mu
 refine ⟨fun b u q n _ _=>k b u (hb b n) q,fun b u q n _ _=>⟨u.slots,k b u (hb b n) q⟩,fun b u q n _=>by rw [Qg (hx b n)];exact n,fun b u q _=>?_,fun b xs q=>by rw [Qg (hm b _ q fun z=>z)];exact q,fun b u xs q=>by rw [Qg (hm b _ q fun z=>z)];exact q,fun b ps q=>⟨#[],by rw [Qg (hm b _ q fun z=>z),q];simp⟩⟩
 by_cases hbe:b=e
 ·subst hbe;exact heo
 ·exact ⟨u,k b u hbe q⟩
end
def trk (h:Heap) (H:Hp):List Addr:=(List.range h.objs.size).filter fun a=>(H a).isSome
def YD (h:Heap) (H:Hp):Heap:=PySem.W.hideAll h (trk h H)
theorem JJ (h:Heap) (H:Hp):(YD h H).objs.size=h.objs.size:=PySem.W.hideAll_size _ _
theorem X0 {h:Heap} {H:Hp} {b:Addr} {o:Obj} (e:h.get? b=some o) (n:H b=none):(YD h H).get? b=some o :=
 PySem.W.hideAll_get _ e fun hm=>by
  have q:(H b).isSome=true:=(List.mem_filter.mp hm).2
  rw [n] at q;simp at q
theorem Vi {h:Heap} {H:Hp} {b:Addr} {o:Obj} (e:(YD h H).get? b=some o):h.get? b=some o∧H b=none:=by
 have e':h.get? b=some o:=PySem.W.of_hideAll (trk h H) e
 refine ⟨e',?_⟩
 cases q:H b with
 | none=>rfl
 | some x =>
  have hm:b ∈ trk h H:=List.mem_filter.mpr ⟨List.mem_range.mpr (Heap.lt_size e'),by simp [q]⟩
  have z:(YD h H).get? b=none:=PySem.W.hideAll_none (trk h H) hm
  rw [z] at e;cases e
def Nu (g h:Heap) (L:Addr):List (9:):=(List.range h.objs.size).filterMap fun a=>if a=L∨(g.get? a).isSome=true then none else (h.get? a).map fun o=>(a,o)
def rest (g h:Heap) (L d:Addr):List (9:):=(Nu g h L).filter fun p=>decide (p.1≠d)
end L2
namespace L2
open PySem PySem.Spec PyProof.Rows
structure Mod (K:PySem.W.Frag) (mg:Str→Option Value) (base:Heap):Prop where
 kin:K.In base
 glob:base.Ns mainGlobals mg
 blt:∃ mb,base.Ns builtinsNs mb∧∀ x:Str,x ≠ "__name__" → mb x=bootBuiltins x
 nolimit:base.NoLimit
structure Cx where
 prog:Program
 w:World
 K:PySem.W.Frag
 mg:Str→Option Value
 base:Heap
 A:Around
 N:List Str
 s₀:Shared
 H₀:Hp
 env:Env
 outer:List Env
 stack:List Env
 ex:List Addr
 fn:Str→Bool
 calm:Bool
 pn:List (9:)
 xe:Value→Shared→Prop
def frs (l:List Env):List Addr:=l.filterMap (·.frame)
abbrev Cx.fs (X:Cx):List Addr:=frs X.outer
def Vis (sc:Scope) (x:Str):Prop:=sc.names.lookup x=some .local∨sc.names.lookup x=some .cell∨sc.names.lookup x=some .free
def Loc (sc:Scope) (x:Str):Prop:=sc.names.lookup x=some .local∨sc.names.lookup x=some .cell
def Sx (env:Env) (h:Heap) (m:Str→Option Value) (x:Str) (u:Value):Prop :=
 (env.kindOf x=some .local∧m x=some u)∨((env.kindOf x=some .cell∨env.kindOf x=some .free)∧∃ c,env.cells.lookup x=some c∧h.IsCell c (some u))
structure Cx.Ok (X:Cx):Prop where
 mod:Mod X.K X.mg X.base
 kind:X.env.scope.kind=.function
 glob:X.env.globals=mainGlobals
 blt:X.env.builtins=builtinsNs
 above:X.s₀.heap.objs.size≤X.env.locals
 inj:∀ x y c,X.env.cells.lookup x=some c→X.env.cells.lookup y=some c→x=y
 has:∀ x,(X.env.kindOf x=some .cell∨X.env.kindOf x=some .free)→∃ c,X.env.cells.lookup x=some c
 cab:∀ x c,X.fn x=true→X.env.cells.lookup x=some c→X.s₀.heap.objs.size≤c
 hd:X.calm=true→X.A.handled=none
 frames:X.A.frames=some X.stack
 stk:X.stack=X.outer∨(X.stack=X.env :: X.outer∧X.env.frame=some X.env.locals)
 exf:∀ b ∈ X.ex,b≠X.env.locals∧∀ x c,X.env.cells.lookup x=some c→c≠b
 bs:∀ b o,X.base.get? b=some o→X.s₀.heap.get? b=some o∧X.H₀ b=none
 bsz:X.base.objs.size≤X.s₀.heap.objs.size
 noex:∀ b o,X.base.get? b=some o→b ∉ X.ex
 exfs:∀ b ∈ X.ex,b ∉ X.fs
 funs:X.s₀.heap.FunFrames X.base X.outer
 frf:∀ b ∈ X.fs,X.H₀ b=none
structure Inv (X:Cx) (pins:List (9:)) (σ:List (Option V)) (H:Hp) (s:Shared):Prop where
 ok:X.Ok
 os:s.os=X.s₀.os
 bare:AllBare s.gens
 base:Un X.fs X.ex X.H₀ H X.s₀.heap s.heap
 loc:∃ m,s.heap.Ns X.env.locals m∧∀ (i:Nat) (x:Str) (v:V),X.N[i]?=some x→σ[i]?=some (some v)→Vis X.env.scope x→∃ u,RelV v u∧Sx X.env s.heap m x u
 cell:∀ x c,X.env.cells.lookup x=some c→∃ v,s.heap.IsCell c v
 free:H X.env.locals=none
 freeC:∀ x c,X.env.cells.lookup x=some c→H c=none
 pin:∀ p ∈ X.pn ++ pins,s.heap.get? p.1=some p.2∧H p.1=none∧p.1≠X.env.locals∧p.1 ∉ X.fs∧∀ v,p.2.data≠.cell v
 hok:HOk X.prog X.w H s.heap
 len:σ.length=X.N.length
section
variable {X:Cx} {pins:List (9:)} {σ:List (Option V)} {H H':Hp} {s:Shared} {h':Heap}
theorem Cx.Ok.nofr (ok:X.Ok) {b:Addr} {o:Obj} (e:X.base.get? b=some o):b ∉ X.fs:=fun hb=>by
 have:=(ok.funs.mem hb).1
 rw [e] at this;cases this
theorem Inv.bs (I:Inv X pins σ H s):∀ b o,X.base.get? b=some o→s.heap.get? b=some o∧H b=none:=fun b o e =>
 ⟨I.base.keep b o (I.ok.bs b o e).1 (I.ok.bs b o e).2 (I.ok.nofr e) (I.ok.noex b o e),I.base.free b o (I.ok.bs b o e).1 (I.ok.bs b o e).2 (I.ok.noex b o e)⟩
theorem Inv.bk (I:Inv X pins σ H s):∀ b o,X.base.get? b=some o→s.heap.get? b=some o:=fun b o e=>(I.bs b o e).1
theorem Inv.mod (I:Inv X pins σ H s):Mod X.K X.mg X.base:=I.ok.mod
theorem Inv.kIn (I:Inv X pins σ H s):X.K.In s.heap:=I.ok.mod.kin.keeps I.bk
theorem Inv.lt (I:Inv X pins σ H s):X.env.locals < s.heap.objs.size:=let ⟨_,hn,_⟩:=I.loc;hn.lt
theorem Inv.sz (I:Inv X pins σ H s):X.s₀.heap.objs.size≤s.heap.objs.size:=Nat.le_trans I.ok.above (Nat.le_of_lt I.lt)
theorem Inv.nofs (I:Inv X pins σ H s) {a:Addr} (h:s.heap.objs.size≤a):a ∉ X.fs:=fun hb=>by
 obtain ⟨_,o,ho,_⟩:=I.ok.funs.mem hb
 exact absurd (Nat.lt_of_lt_of_le (Heap.lt_size ho) (Nat.le_trans I.sz h)) (Nat.lt_irrefl _)
theorem Inv.cne (I:Inv X pins σ H s):∀ x c,X.env.cells.lookup x=some c→c≠X.env.locals:=fun x c e z=>by
 obtain ⟨v,o,ho,hd⟩:=I.cell x c e
 obtain ⟨m,⟨o',es,ep,ho',hd',_⟩,_⟩:=I.loc
 rw [z,ho'] at ho;cases ho;rw [hd'] at hd;cases hd
theorem Inv.funs (I:Inv X pins σ H s):s.heap.FunFrames X.base X.outer:=by
 have all:∀ (l:List Env),(∀ b ∈ frs l,b ∈ X.fs)→X.s₀.heap.FunFrames X.base l→s.heap.FunFrames X.base l:=by
  intro l
  induction l with
  | nil=>intro _ _;trivial
  | cons env r ih =>
   intro hs hl
   obtain ⟨hk,⟨L,o,hf,hn,ho,hd⟩,hr⟩:=hl
   have hL:L ∈ X.fs:=hs L (by unfold frs;rw [List.filterMap_cons,hf];exact List.mem_cons_self)
   obtain ⟨sl,e⟩:=I.base.slot L o ho (I.ok.frf L hL) hL fun z=>I.ok.exfs L z hL
   exact ⟨hk,⟨L,_,hf,hn,e,hd⟩,ih (fun b hb=>hs b (by unfold frs;rw [List.filterMap_cons,hf];exact List.mem_cons_of_mem _ hb)) hr⟩
 exact all X.outer (fun _ hb=>hb) I.ok.funs
theorem Inv.stack (I:Inv X pins σ H s):s.heap.FunFrames X.base X.stack:=by
 rcases I.ok.stk with e | ⟨e,hf⟩
 ·rw [e];exact I.funs
 ·rw [e]
  obtain ⟨m,hn,_⟩:=I.loc
  refine .cons (by rw [I.ok.kind];decide) hf hn ?_ I.funs
  exact Heap.get?_none_of_le (Nat.le_trans I.ok.bsz I.ok.above)
theorem Inv.stkSub (I:Inv X pins σ H s):∀ b ∈ frs X.stack,b ∈ X.env.locals :: X.fs:=fun b hb=>by
 rcases I.ok.stk with e | ⟨e,hf⟩
 ·rw [e] at hb;exact List.mem_cons_of_mem _ hb
 ·rw [e] at hb
  unfold frs at hb
  rw [List.filterMap_cons,hf] at hb
  exact hb
theorem Inv.stkFree (I:Inv X pins σ H s):∀ b ∈ frs X.stack,H b=none:=fun b hb=>by
 rcases List.mem_cons.mp (I.stkSub b hb) with e | hb
 ·rw [e];exact I.free
 ·obtain ⟨_,o,ho,_⟩:=I.ok.funs.mem hb
  exact I.base.free b o ho (I.ok.frf b hb) fun z=>I.ok.exfs b z hb
theorem Inv.step {g':Array GenState} {t':Nat} {d':Drawn} {ch:List Addr} (I:Inv X pins σ H s)
 (hch:∀ b ∈ ch,(b ∈ X.ex∨X.s₀.heap.objs.size≤b)∧b≠X.env.locals∧(∀ x c,X.env.cells.lookup x=some c→c≠b)∧∀ p ∈ X.pn ++ pins,p.1≠b)
 (keep:∀ b o,b≠X.env.locals→b ∉ X.fs→b ∉ ch→s.heap.get? b=some o→H b=none→h'.get? b=some o)
 (slot:∀ b o,b≠X.env.locals→b ∈ X.fs→b ∉ ch→s.heap.get? b=some o→H b=none→∃ sl,h'.get? b=some { o with slots:=sl }) (free:∀ b o,b ∉ ch→s.heap.get? b=some o→H b=none→H' b=none)
 (there:∀ b o,b ∉ ch→s.heap.get? b=some o→∃ o',h'.get? b=some o')
 (tups:∀ b xs,H b=some (.tup xs)→H' b=some (.tup xs)) (frzs:∀ b o u,H b=some (.frz o u)→H' b=some (.frz o u)) (tbls:∀ b ps,H b=some (.tbl ps)→∃ more,H' b=some (.tbl (ps ++ more)))
 (ns:∀ m,s.heap.Ns X.env.locals m→h'.Ns X.env.locals m) (hok:HOk X.prog X.w H' h') (hg:AllBare g') :
 Inv X pins σ H' { s with heap:=h',gens:=g',drawn:=d',toks:=t' }:=by
 have neL:∀ b o,X.s₀.heap.get? b=some o→b≠X.env.locals:=fun b o e=>Nat.ne_of_lt (Nat.lt_of_lt_of_le (58:) I.ok.above)
 have neC:∀ b o,X.s₀.heap.get? b=some o→b ∉ X.ex→b ∉ ch:=fun b o e hx hb=>by
  rcases (hch b hb).1 with z | z
  ·exact hx z
  ·exact absurd (Nat.lt_of_lt_of_le (58:) z) (Nat.lt_irrefl _)
 have cellK:∀ x c,X.env.cells.lookup x=some c→∀ v,s.heap.IsCell c v→h'.IsCell c v:=fun x c e v ⟨o,ho,hd⟩=>by
  have nch:c ∉ ch:=fun z=>(hch c z).2.2.1 x c e rfl
  by_cases hc:c ∈ X.fs
  ·obtain ⟨sl,q⟩:=slot c o (I.cne x c e) hc nch ho (I.freeC x c e)
   exact ⟨_,q,hd⟩
  ·exact ⟨o,keep c o (I.cne x c e) hc nch ho (I.freeC x c e),hd⟩
 refine ⟨I.ok,I.os,hg,⟨fun b o e n hb hx=>?_,fun b o e n hb hx=>?_,fun b o e n hx=>?_,fun b o e hx=>?_,fun b xs e=>tups b xs (I.base.tups b xs e),fun b o xs e=>frzs b o xs (I.base.frzs b o xs e),fun b ps e=>?_⟩,?_,fun x c e=>?_,?_,fun x c e=>?_,fun p hp=>?_,hok,I.len⟩
 ·exact keep b o (neL b o e) hb (neC b o e hx) (I.base.keep b o e n hb hx) (I.base.free b o e n hx)
 ·obtain ⟨sl,e1⟩:=I.base.slot b o e n hb hx
  obtain ⟨sl',e2⟩:=slot b _ (neL b o e) hb (neC b o e hx) e1 (I.base.free b o e n hx)
  exact ⟨sl',e2⟩
 ·obtain ⟨o',e1⟩:=I.base.there b o e hx
  exact free b o' (neC b o e hx) e1 (I.base.free b o e n hx)
 ·obtain ⟨o',e1⟩:=I.base.there b o e hx
  exact there b o' (neC b o e hx) e1
 ·obtain ⟨m1,e1⟩:=I.base.tbls b ps e
  obtain ⟨m2,e2⟩:=tbls b _ e1
  exact ⟨m1 ++ m2,by rw [e2,Array.append_assoc]⟩
 ·obtain ⟨m,hn,hl⟩:=I.loc
  refine ⟨m,ns m hn,fun i x v e1 e2 e3=>?_⟩
  obtain ⟨u,r,l⟩:=hl i x v e1 e2 e3
  refine ⟨u,r,?_⟩
  rcases l with l | ⟨k,c,e,z⟩
  ·exact .inl l
  ·exact .inr ⟨k,c,e,cellK x c e _ z⟩
 ·obtain ⟨v,z⟩:=I.cell x c e
  exact ⟨v,cellK x c e v z⟩
 ·obtain ⟨m,⟨o,_,_,ho,_⟩,_⟩:=I.loc
  exact free _ o (fun z=>(hch _ z).2.1 rfl) ho I.free
 ·obtain ⟨v,o,ho,hd⟩:=I.cell x c e
  exact free c o (fun z=>(hch c z).2.2.1 x c e rfl) ho (I.freeC x c e)
 ·obtain ⟨e,n,ne,nf,d⟩:=I.pin p hp
  have nch:p.1 ∉ ch:=fun z=>(hch p.1 z).2.2.2 p hp rfl
  exact ⟨keep p.1 p.2 ne nf nch e n,free p.1 p.2 nch e n,ne,nf,d⟩
theorem Inv.un {t':Nat} (I:Inv X pins σ H s) (u:Un X.fs [] H H' s.heap h') (hok:HOk X.prog X.w H' h'):Inv X pins σ H' { s with heap:=h',toks:=t' }:=by
 obtain ⟨m,⟨o,es,ep,ho,r⟩,_⟩:=id I.loc
 obtain ⟨sl,hL⟩:=u.any ho I.free (24:)
 exact I.step (g':=s.gens) (d':=s.drawn) (ch:=[]) (fun _ z=>nomatch z) (fun b o _ hb _ e n=>u.keep b o e n hb (24:)) (fun b o _ hb _ e n=>u.slot b o e n hb (24:)) (fun b o _ e n=>u.free b o e n (24:)) (fun b o _ e=>u.there b o e (24:)) u.tups u.frzs u.tbls (fun m' hm=>by
  obtain ⟨o',es',ep',ho',r'⟩:=hm
  rw [ho] at ho';cases ho'
  exact ⟨_,es',ep',hL,r'⟩) hok I.bare
theorem Inv.call {g':Array GenState} {t':Nat} {d':Drawn} {ch:List Addr} (I:Inv X pins σ H s) (u:Un (frs X.stack) ch H H' s.heap h') (hok:HOk X.prog X.w H' h') (hg:AllBare g')
 (hch:∀ b ∈ ch,(b ∈ X.ex∨X.s₀.heap.objs.size≤b)∧b≠X.env.locals∧(∀ x c,X.env.cells.lookup x=some c→c≠b)∧∀ p ∈ X.pn ++ pins,p.1≠b) :
 Inv X pins σ H' { s with heap:=h',gens:=g',drawn:=d',toks:=t' }:=by
 obtain ⟨m,⟨o,es,ep,ho,r⟩,_⟩:=id I.loc
 obtain ⟨sl,hL⟩:=u.any ho I.free fun z=>(hch _ z).2.1 rfl
 exact I.step (ch:=ch) hch (fun b o hL hb hc e n=>u.keep b o e n (fun z=>(List.mem_cons.mp (I.stkSub b z)).elim hL hb) hc) (fun b o _ _ hc e n=>u.any e n hc) (fun b o hc e n=>u.free b o e n hc) (fun b o hc e=>u.there b o e hc) u.tups u.frzs u.tbls (fun m' hm=>by
  obtain ⟨o',es',ep',ho',r'⟩:=hm
  rw [ho] at ho';cases ho'
  exact ⟨_,es',ep',hL,r'⟩) hok hg
theorem Inv.turned {t':Nat} {it:Addr} (I:Inv X pins σ H s) (k:∀ b o,b≠it→s.heap.get? b=some o→h'.get? b=some o) (hn:H it=none) (hL:it≠X.env.locals)
 (h1:it ∈ X.ex∨X.s₀.heap.objs.size≤it) (h2:∀ x c,X.env.cells.lookup x=some c→c≠it) (h3:∀ p ∈ X.pn ++ pins,p.1≠it):Inv X pins σ H { s with heap:=h',toks:=t' }:=by
 have nit:∀ b u,H b=some u→b≠it:=fun b u e z=>by rw [z,hn] at e;cases e
 refine I.step (g':=s.gens) (d':=s.drawn) (ch:=[it]) (fun b hb=>?_) (fun b o _ _ hc e _=>k b o (fun z=>hc (by simp [z])) e) (fun b o _ _ hc e _=>⟨o.slots,k b o (fun z=>hc (by simp [z])) e⟩) (fun _ _ _ _ n=>n)
  (fun b o hc e=>⟨o,k b o (fun z=>hc (by simp [z])) e⟩) (fun _ _ e=>e) (fun _ _ _ e=>e) (fun b ps e=>⟨#[],by rw [e];simp⟩) (fun m hm=>?_) (fun b u e=>?_) I.bare
 ·have e:b=it:=by simpa using hb
  subst e
  exact ⟨h1,hL,h2,h3⟩
 ·obtain ⟨o,es,ep,ho,r⟩:=hm
  exact ⟨o,es,ep,k _ o (Ne.symm hL) ho,r⟩
 ·refine (I.hok b u e).stay (fun c v hc q=>k c v ?_ q) (fun _ q=>q) fun _ _ q=>q
  rcases hc with z | z
  ·rw [z];exact nit b u e
  ·exact nit c _ z
theorem Inv.tok (I:Inv X pins σ H s) (t:Nat):Inv X pins σ H { s with toks:=t }:=I.un (h':=s.heap) (t':=t) Un.refl I.hok
theorem Inv.kept {t':Nat} (I:Inv X pins σ H s) (k:∀ b u,s.heap.get? b=some u→h'.get? b=some u):Inv X pins σ H { s with heap:=h',toks:=t' }:=I.un (Un.kept k) (I.hok.kept k)
theorem Inv.laid {a:Addr} {o:HO} {t':Nat} (I:Inv X pins σ H s) (k:∀ b u,s.heap.get? b=some u→h'.get? b=some u) (hp:s.heap.objs.size≤a) (new:ObjOk X.prog X.w (upd H a o) h' a o) :
 Inv X pins σ (upd H a o) { s with heap:=h',toks:=t' }:=I.un (Un.laid k hp (I.hok.fresh hp)) (I.hok.laid k hp new)
theorem Inv.write {x e:Addr} {o:HO} {t':Nat} (I:Inv X pins σ H s) (mu:Mut (H x)) (he:e=x∨H e=some (.own x)) (k:∀ b u,b≠e→s.heap.get? b=some u→h'.get? b=some u) (heo:∃ u,h'.get? e=some u)
 (new:ObjOk X.prog X.w (upd H x o) h' x o):Inv X pins σ (upd H x o) { s with heap:=h',toks:=t' }:=I.un (Un.write mu he k heo) (I.hok.write mu he k heo new)
theorem Inv.pins_of {pins':List (9:)} (I:Inv X pins σ H s) (h:∀ p ∈ pins',s.heap.get? p.1=some p.2∧H p.1=none∧p.1≠X.env.locals∧p.1 ∉ X.fs∧∀ v,p.2.data≠.cell v):Inv X pins' σ H s :=
 ⟨I.ok,I.os,I.bare,I.base,I.loc,I.cell,I.free,I.freeC,fun p hp=>(List.mem_append.mp hp).elim (fun z=>I.pin p (List.mem_append_left _ z)) (h p),I.hok,I.len⟩
theorem UX {N:List Str} (hN:N.Nodup) {i j:Nat} {x:Str} (a:N[i]?=some x) (b:N[j]?=some x):i=j:=by
 obtain ⟨h1,e1⟩:=List.getElem?_eq_some_iff.mp a
 obtain ⟨h2,e2⟩:=List.getElem?_eq_some_iff.mp b
 exact (List.getElem_inj hN).mp (e1.trans e2.symm)
theorem JA {M:Model} {A:Around} {E:Value→Shared→Prop} {i:Nat} {x:Str} {v:V} {u:Value} {Q:Unit→Shared→Prop} (I:Inv X pins σ H s) (hN:X.N.Nodup) (hi:X.N[i]?=some x) (hx:Loc X.env.scope x) (r:RelV v u)
 (h:∀ s',Inv X pins (σ.set i (some v)) H s'→(∃ a,Heap.SameBut a s.heap s'.heap∧(a=X.env.locals∨X.env.cells.lookup x=some a))→Q () s') (hf:X.fn x=true∨X.env.scope.names.lookup x=some .local:=by first | exact .inl rfl | exact .inr rfl | assumption):wpAny M A (storeName X.env x u) Q E s:=by
 obtain ⟨m,hn,hl⟩:=id I.loc
 have hcls:(X.env.scope.kind == .class || (X.env.scope.kind == .module && X.env.locals != X.env.globals))=false:=by rw [I.ok.kind];rfl
 have hiσ:i < σ.length:=by rw [I.len];exact (List.getElem?_eq_some_iff.mp hi).1
 have cne:=I.cne
 have tracked:∀ {a:Addr} {h':Heap},(∃ o,s.heap.get? a=some o∧H a=none)→Heap.SameBut a s.heap h'→HOk X.prog X.w H h':=fun {a h'} ha hs b ob e=>by
  obtain ⟨_,_,hfree⟩:=ha
  refine (I.hok b ob e).stay (fun c w' hc q=>(hs.2 c ?_).trans q) (fun _ q=>q) fun _ _ q=>q
  rintro rfl
  rcases hc with rfl | hc
  ·rw [hfree] at e;cases e
  ·rw [hfree] at hc;cases hc
 rcases hx with hk | hk
 ·refine wpAny_storeName_local hk hn (fun h' hn' hs=>?_) hcls
  obtain ⟨oL,_,_,hoL,_⟩:=id hn
  refine h _ ⟨I.ok,I.os,I.bare,⟨fun b o e n hb hx=>?_,fun b o e n hb hx=>?_,I.base.free,fun b o e hx=>?_,I.base.tups,I.base.frzs,I.base.tbls⟩,⟨_,hn',fun j y v' e1 e2 e3=>?_⟩,fun y c e=>?_,I.free,I.freeC,fun p hp=>?_,tracked ⟨oL,hoL,I.free⟩ hs,by simpa using I.len⟩ ⟨_,hs,.inl rfl⟩
  ·exact (hs.2 b (Nat.ne_of_lt (Nat.lt_of_lt_of_le (58:) I.ok.above))).trans (I.base.keep b o e n hb hx)
  ·obtain ⟨sl,e1⟩:=I.base.slot b o e n hb hx
   exact ⟨sl,(hs.2 b (Nat.ne_of_lt (Nat.lt_of_lt_of_le (58:) I.ok.above))).trans e1⟩
  ·obtain ⟨o',e1⟩:=I.base.there b o e hx
   exact ⟨o',(hs.2 b (Nat.ne_of_lt (Nat.lt_of_lt_of_le (58:) I.ok.above))).trans e1⟩
  ·by_cases hj:j=i
   ·subst hj
    rw [hi] at e1;cases e1
    rw [List.getElem?_set_self hiσ] at e2
    cases e2
    exact ⟨u,r,.inl ⟨hk,by simp⟩⟩
   ·rw [List.getElem?_set_ne (Ne.symm hj)] at e2
    obtain ⟨u',r',q⟩:=hl j y v' e1 e2 e3
    refine ⟨u',r',?_⟩
    rcases q with ⟨k,e⟩ | ⟨k,c,e,z⟩
    ·refine .inl ⟨k,?_⟩
     have:y≠x:=fun e=>hj (UX hN e1 (e ▸ hi))
     simp [this,e]
    ·exact .inr ⟨k,c,e,z.sameBut hs (cne y c e)⟩
  ·obtain ⟨w',z⟩:=I.cell y c e
   exact ⟨w',z.sameBut hs (cne y c e)⟩
  ·obtain ⟨e,n,ne,nf,d⟩:=I.pin p hp
   exact ⟨(hs.2 p.1 ne).trans e,n,ne,nf,d⟩
 ·have hfn:X.fn x=true:=by
   rcases hf with z | z
   ·exact z
   ·rw [z] at hk;cases hk
  obtain ⟨c,hc⟩:=I.ok.has x (.inl hk)
  obtain ⟨w',z⟩:=I.cell x c hc
  refine wpAny_storeName_cell I.ok.kind hk hc z (fun h' hc' hs=>?_)
  obtain ⟨oc,hoc,hocd⟩:=id z
  refine h { s with heap:=h' } ⟨I.ok,I.os,I.bare,⟨fun b o e n hb hx=>?_,fun b o e n hb hx=>?_,I.base.free,fun b o e hx=>?_,I.base.tups,I.base.frzs,I.base.tbls⟩,⟨m,hn.sameBut hs (Ne.symm (cne x c hc)),fun j y v' e1 e2 e3=>?_⟩,fun y c' e=>?_,I.free,I.freeC,fun p hp=>?_,tracked ⟨oc,hoc,I.freeC x c hc⟩ hs,by simpa using I.len⟩ ⟨c,hs,.inr hc⟩
  ·exact (hs.2 b (Nat.ne_of_lt (Nat.lt_of_lt_of_le (58:) (I.ok.cab x c hfn hc)))).trans (I.base.keep b o e n hb hx)
  ·obtain ⟨sl,e1⟩:=I.base.slot b o e n hb hx
   exact ⟨sl,(hs.2 b (Nat.ne_of_lt (Nat.lt_of_lt_of_le (58:) (I.ok.cab x c hfn hc)))).trans e1⟩
  ·obtain ⟨o',e1⟩:=I.base.there b o e hx
   exact ⟨o',(hs.2 b (Nat.ne_of_lt (Nat.lt_of_lt_of_le (58:) (I.ok.cab x c hfn hc)))).trans e1⟩
  ·by_cases hj:j=i
   ·subst hj
    rw [hi] at e1;cases e1
    rw [List.getElem?_set_self hiσ] at e2
    cases e2
    exact ⟨u,r,.inr ⟨.inl hk,c,hc,hc'⟩⟩
   ·rw [List.getElem?_set_ne (Ne.symm hj)] at e2
    obtain ⟨u',r',q⟩:=hl j y v' e1 e2 e3
    refine ⟨u',r',?_⟩
    rcases q with q | ⟨k,c',e,z'⟩
    ·exact .inl q
    ·refine .inr ⟨k,c',e,z'.sameBut hs ?_⟩
     rintro rfl
     exact hj (UX hN e1 (I.ok.inj _ _ _ e hc ▸ hi))
  ·by_cases hcc:c'=c
   ·subst hcc;exact ⟨_,hc'⟩
   ·obtain ⟨w2,z2⟩:=I.cell y c' e
    exact ⟨w2,z2.sameBut hs hcc⟩
  ·obtain ⟨e,n,ne,nf,d⟩:=I.pin p hp
   refine ⟨(hs.2 p.1 ?_).trans e,n,ne,nf,d⟩
   intro q
   rw [q,hoc] at e
   have q':oc=p.2:=Option.some.inj e
   exact d w' (by rw [← q'];exact hocd)
theorem UI {M:Model} {A:Around} {E:Value→Shared→Prop} {i:Nat} {x:Str} {v:V} {u:Value} {Q:Unit→Shared→Prop} (I:Inv X pins σ H s) (hN:X.N.Nodup) (hi:X.N[i]?=some x) (hx:Loc X.env.scope x) (r:RelV v u)
 (h:∀ s',Inv X pins (σ.set i (some v)) H s'→Q () s') (hf:X.fn x=true∨X.env.scope.names.lookup x=some .local:=by first | exact .inl rfl | exact .inr rfl | assumption):wpAny M A (storeName X.env x u) Q E s :=
 JA I hN hi hx r (fun s' I' _=>h s' I') hf
theorem Inv.call' {s':Shared} {ch:List Addr} (I:Inv X pins σ H s) (ho:s'.os=s.os) (u:Un (frs X.stack) ch H H' s.heap s'.heap) (hok:HOk X.prog X.w H' s'.heap) (hg:AllBare s'.gens)
 (hch:∀ b ∈ ch,(b ∈ X.ex∨X.s₀.heap.objs.size≤b)∧b≠X.env.locals∧(∀ x c,X.env.cells.lookup x=some c→c≠b)∧∀ p ∈ X.pn ++ pins,p.1≠b):Inv X pins σ H' s':=by
 obtain ⟨h',g',d',t',o'⟩:=s'
 have e:o'=s.os:=ho
 subst e
 exact I.call (g':=g') (t':=t') (d':=d') u hok hg hch
end
abbrev XK:=Value→Option Addr→Hp→Prop
abbrev St:=List (Option V)
abbrev VK:=V→Hp→Prop
abbrev TE:=St→Hp→VK→Prop
abbrev TT:=St→Hp→(Bool→Hp→Prop)→Prop
abbrev TA:=St→Hp→(List V→Hp→Prop)→Prop
structure Ends where
 nx:St→Hp→Prop
 rt:VK
 bk:St→Hp→Prop:=fun _ _=>False
 ct:St→Hp→Prop:=fun _ _=>False
abbrev TS:=Ends→St→Hp→Prop
def EP (X:Cx) (pins:List (9:)) (σ:St) (Q:VK) (u:Value) (s':Shared):Prop:=∃ v H',Inv X pins σ H' s'∧RelV v u∧Q v H'
def TP (X:Cx) (pins:List (9:)) (σ:St) (Q:Bool→Hp→Prop) (b:Bool) (s':Shared):Prop:=∃ H',Inv X pins σ H' s'∧Q b H'
def AP (X:Cx) (pins:List (9:)) (σ:St) (Q:List V→Hp→Prop) (us:List Value) (s':Shared):Prop:=∃ vs H',Inv X pins σ H' s'∧Vals vs us∧Q vs H'
def SP (X:Cx) (pins:List (9:)) (D:Ends) (f:Flow) (s':Shared):Prop :=
 match f with
 | .next=>∃ σ' H',Inv X pins σ' H' s'∧D.nx σ' H'
 | .brk=>∃ σ' H',Inv X pins σ' H' s'∧D.bk σ' H'
 | .cont=>∃ σ' H',Inv X pins σ' H' s'∧D.ct σ' H'
 | .ret u=>∃ v σ' H',Inv X pins σ' H' s'∧RelV v u∧D.rt v H'
def PE (X:Cx) (e:Expr) (t:TE):Prop :=
 ∀ (pins:List (9:)) (s:Shared) (σ:St) (H:Hp) (Q:VK),Inv X pins σ H s→t σ H Q→wpAny (6:) X.A (eval e X.env) (EP X pins σ Q) X.xe s
def PT (X:Cx) (e:Expr) (t:TT):Prop :=
 ∀ (pins:List (9:)) (s:Shared) (σ:St) (H:Hp) (Q:Bool→Hp→Prop),Inv X pins σ H s→t σ H Q→wpAny (6:) X.A (isTrue e X.env (eval e X.env)) (TP X pins σ Q) X.xe s
def PW (X:Cx) (e:Expr) (t:TT):Prop :=
 ∀ (whole:Sem Value) (pins:List (9:)) (s:Shared) (σ:St) (H:Hp) (Q:Bool→Hp→Prop),Inv X pins σ H s→t σ H Q→wpAny (6:) X.A (isTrue e X.env whole) (TP X pins σ Q) X.xe s
theorem PW.pt {X:Cx} {e:Expr} {t:TT} (h:PW X e t):PT X e t:=h _
def PA (X:Cx) (es:List Expr) (t:TA):Prop :=
 ∀ (pos:Pos) (pins:List (9:)) (s:Shared) (σ:St) (H:Hp) (Q:List V→Hp→Prop),Inv X pins σ H s→t σ H Q→wpAny (6:) X.A (spliced (backTo pos (starEach es X.env))) (AP X pins σ Q) X.xe s
def PS (X:Cx) (st:Stmt) (t:TS):Prop :=
 ∀ (pins:List (9:)) (s:Shared) (σ:St) (H:Hp) (D:Ends),Inv X pins σ H s→t D σ H→wpAny (6:) X.A (exec st X.env) (SP X pins D) X.xe s
def PSs (X:Cx) (st:List Stmt) (t:TS):Prop :=
 ∀ (pins:List (9:)) (s:Shared) (σ:St) (H:Hp) (D:Ends),Inv X pins σ H s→t D σ H→wpAny (6:) X.A (execs st X.env) (SP X pins D) X.xe s
theorem thn {α:Type} {t:Sem α} {Q Q':α→Shared→Prop} {M:Model} {A:Around} {E:Value→Shared→Prop} {s:Shared} (h:wpAny M A t Q E s) (hQ:∀ a s,Q a s→Q' a s):wpAny M A t Q' E s:=wpAny_mono h hQ fun _ _ x=>x
end L2
namespace L2
open PySem PySem.Spec PyProof.Rows
section
variable {X:Cx}
def Zi (i:Nat):TE:=fun σ H Q=>∃ v,σ[i]?=some (some v)∧Q v H
def tC (v:V):TE:=fun _ H Q=>Q v H
theorem Lw {i:Nat} {x:Str} {pos:Pos} (hN:X.N[i]?=some x) (hv:Vis X.env.scope x) (hd:(41:)=false:=by decide) (hcd:(x == ("__classdict__" : Str))=false:=by decide):PE X (.Name x pos) (Zi i):=by
 intro pins s σ H Q I h
 obtain ⟨v,e,h⟩:=h
 obtain ⟨m,hn,hl⟩:=I.loc
 obtain ⟨u,r,l⟩:=hl i x v hN e hv
 have fin:EP X pins σ Q u s:=⟨v,H,I,r,h⟩
 rcases l with ⟨hk,hm⟩ | ⟨hk,c,hc,hcell⟩
 ·exact wpAny_Name (wpAny_loadName_local I.ok.kind hk hn hm fin) hd
 ·rcases hk with hk | hk
  ·exact wpAny_Name (wpAny_loadName_cell I.ok.kind hk hc hcell fin) hd
  ·exact wpAny_Name (wpAny_loadName_free I.ok.kind hk hc hcell fin hcd) hd
theorem Qd {i j pos}:PE X (.Constant (.int i) j pos) (tC (.int i)):=fun _ _ _ H _ I h=>wpAny_Constant_int ⟨.int i,H,I.tok _,(54:),h⟩
theorem ZK {b j pos}:PE X (.Constant (.bool b) j pos) (tC (.bl b)):=fun _ _ _ H _ I h=>Constant_bool ⟨.bl b,H,I,rfl,h⟩
theorem Y7 {j pos}:PE X (.Constant .none j pos) (tC .non):=fun _ _ _ H _ I h=>Constant_none ⟨.non,H,I,rfl,h⟩
theorem Q5 {x j pos}:PE X (.Constant (.str x) j pos) (tC (.str x)):=fun _ _ _ H _ I h=>Calls.Constant_str ⟨.str x,H,I.tok _,(54:),h⟩
def Gl (X:Cx) (x:Str):Prop:=X.env.kindOf x=some .globalImplicit
theorem ZT {E:Value→Shared→Prop} {pins:List (9:)} {s:Shared} {σ:St} {H:Hp} {x:Str} {u:Value} {pos:Pos} {Q:Value→Shared→Prop} (I:Inv X pins σ H s) (hg:Gl X x) (hm:X.mg x=some u) (h:Q u s)
 (hd:(41:)=false:=by decide):wpAny (6:) X.A (eval (.Name x pos) X.env) Q E s :=
 Calls.Name_function_global I.ok.kind hg (Calls.loadGlobal_global (by rw [I.ok.glob];exact I.mod.glob.keeps I.bk) hm h) hd
theorem ZU {E:Value→Shared→Prop} {pins:List (9:)} {s:Shared} {σ:St} {H:Hp} {x:Str} {u:Value} {pos:Pos} {Q:Value→Shared→Prop} (I:Inv X pins σ H s) (hg:Gl X x) (hm:X.mg x=none) (hv:bootBuiltins x=some u) (h:Q u s)
 (hn:x ≠ "__name__" := by decide) (hd:(41:)=false:=by decide):wpAny (6:) X.A (eval (.Name x pos) X.env) Q E s:=by
 obtain ⟨mb,h1,h2⟩:=I.mod.blt
 exact Calls.Name_function_global I.ok.kind hg (Calls.loadGlobal_builtin (by rw [I.ok.glob];exact I.mod.glob.keeps I.bk) hm (by rw [I.ok.blt];exact h1.keeps I.bk) ((h2 x hn).trans hv) h) hd
theorem Yt {x:Str} {v:V} {u:Value} {pos:Pos} (hg:Gl X x) (hm:X.mg x=some u) (r:RelV v u) (hd:(41:)=false:=by decide):PE X (.Name x pos) (tC v) :=
 fun _ _ _ H _ I h=>ZT I hg hm ⟨v,H,I,r,h⟩ hd
theorem VD {x:Str} {v:V} {u:Value} {pos:Pos} (hg:Gl X x) (hm:X.mg x=none) (hv:bootBuiltins x=some u) (r:RelV v u) (hn:x ≠ "__name__" := by decide) (hd:(41:)=false:=by decide):PE X (.Name x pos) (tC v) :=
 fun _ _ _ H _ I h=>ZU I hg hm hv ⟨v,H,I,r,h⟩ hn hd
variable {a b:Expr} {ta tb:TE} {pos:Pos}
def PC (X:Cx) (op:CmpOp) (a b:Expr) (t:TE):Prop :=
 ∀ (pins:List (9:)) (s:Shared) (σ:St) (H:Hp) (Q:VK),Inv X pins σ H s→t σ H Q →
  wpAny (6:) X.A (eval a X.env) (fun v s₁=>wpAny (6:) X.A (eval b X.env) (fun u s₂=>wpAny (6:) X.A (compareOp op v u) (EP X pins σ Q) X.xe s₂) X.xe s₁) X.xe s
theorem ME (b:Expr) {op:CmpOp} (h:op≠.In) (h2:op≠.NotIn):behindInMarks op b=false:=by
 have e1:(op == CmpOp.In)=false:=by cases op <;> first | rfl | exact absurd rfl h
 have e2:(op == CmpOp.NotIn)=false:=by cases op <;> first | rfl | exact absurd rfl h2
 cases b <;> simp [behindInMarks,e1,e2]
def Su (ta:TE):TE:=fun σ H Q=>ta σ H fun x H1=>Q (.bl (decide (x=.non))) H1
theorem RelV.none_iff {x:V} {v:Value} (r:RelV x v):(v == Value.none)=decide (x=.non):=by
 cases x with
 | non=>cases r;rfl
 | bl _=>cases r;rfl
 | int _=>obtain ⟨t,rfl⟩:=r;rfl
 | str _=>obtain ⟨t,rfl⟩:=r;rfl
 | byt _=>obtain ⟨t,rfl⟩:=r;rfl
 | flt _=>obtain ⟨t,rfl⟩:=r;rfl
 | ref _=>cases r;rfl
 | ty _=>cases r;rfl
theorem ON {j pos'} (ha:PE X a ta):PC X .Is a (.Constant .none j pos') (Su ta):=by
 intro pins s σ H Q I h
 refine thn (ha pins s σ H _ I h) fun v s1 ⟨x,H1,I1,r1,q1⟩=>?_
 exact Constant_none (is_none_gen ⟨.bl _,H1,I1,by rw [r1.none_iff];rfl,q1⟩)
def tB (t:TE):TT:=fun σ H Q=>t σ H fun x H1=>∃ c,x=.bl c∧Q c H1
theorem MR {op:CmpOp} {t:TE} (h:PC X op a b t) (h1:behindInMarks op b=false:=by first | exact ME _ (27:) (27:) | rfl):PT X (.Compare a [op] [b] pos) (tB t):=by
 intro pins s σ H Q I hw
 refine wpAny_isTrue_Compare1 (thn (h pins s σ H _ I hw) fun v s1 h1=>thn h1 fun u s2 h2=>thn h2 fun c s3 ⟨x,H1,I1,r1,q1⟩=>?_) h1
 obtain ⟨d,rfl,q⟩:=q1
 cases r1
 exact wpAny_truthy_bool ⟨H1,I1,q⟩
theorem ZW {e:Expr} {t:TE} (h:PE X e t) (he:∀ whole,isTrue e X.env whole=(do let v ← whole;standAt e.pos;holding [v] (truthy v)):=by intro _;rfl):PT X e (tB t):=by
 intro pins s σ H Q I hw
 refine isTrue_plain (thn (h pins s σ H _ I hw) fun v s1 ⟨x,H1,I1,r1,q1⟩=>?_) (he _)
 obtain ⟨d,rfl,q⟩:=q1
 cases r1
 exact wpAny_truthy_bool ⟨H1,I1,q⟩
variable {tA tB':TT} {rest:List Expr}
def SG (t u:TT):TT:=fun σ H Q=>t σ H fun c H1=>if c=true then u σ H1 Q else Q false H1
def tOr (t u:TT):TT:=fun σ H Q=>t σ H fun c H1=>if c=true then Q true H1 else u σ H1 Q
def SF (t:TT):TT:=fun σ H Q=>t σ H fun c H1=>Q (!c) H1
theorem pw_and1 (ha:PT X a tA):PW X (.BoolOp .And [a] pos) tA:=by
 intro wh pins s σ H Q I h
 refine isTrue_and (thn (ha pins s σ H Q I h) fun c s1 e=>?_)
 cases c with
 | true=>exact isTrue_and_nil e
 | false=>exact e
theorem pw_or1 (ha:PT X a tA):PW X (.BoolOp .Or [a] pos) tA:=by
 intro wh pins s σ H Q I h
 refine isTrue_or (thn (ha pins s σ H Q I h) fun c s1 e=>?_)
 cases c with
 | false=>exact isTrue_or_nil e
 | true=>exact e
theorem pw_and (ha:PT X a tA) (hb:PW X (.BoolOp .And (b :: rest) pos) tB'):PW X (.BoolOp .And (a :: b :: rest) pos) (SG tA tB'):=by
 intro wh pins s σ H Q I h
 refine isTrue_and (thn (ha pins s σ H _ I h) fun c s1 ⟨H1,I1,q1⟩=>?_)
 cases c with
 | true=>exact hb wh pins s1 σ H1 Q I1 q1
 | false=>exact ⟨H1,I1,q1⟩
theorem pw_or (ha:PT X a tA) (hb:PW X (.BoolOp .Or (b :: rest) pos) tB'):PW X (.BoolOp .Or (a :: b :: rest) pos) (tOr tA tB'):=by
 intro wh pins s σ H Q I h
 refine isTrue_or (thn (ha pins s σ H _ I h) fun c s1 ⟨H1,I1,q1⟩=>?_)
 cases c with
 | true=>exact ⟨H1,I1,q1⟩
 | false=>exact hb wh pins s1 σ H1 Q I1 q1
theorem J4 (ha:PT X a tA):PT X (.UnaryOp .Not a pos) (SF tA):=by
 intro pins s σ H Q I h
 exact isTrue_not (ha pins s σ H (fun c H1=>Q (!c) H1) I h)
def R5 (ta tb:TE):TE:=fun σ H Q=>ta σ H fun x H1=>∃ c,x=.bl c∧if c=true then tb σ H1 Q else Q (.bl false) H1
def P6 (ta:TE):TE:=fun σ H Q=>ta σ H fun x H1=>∃ c,x=.bl c∧Q (.bl (!c)) H1
theorem Xa {op} {t:TE} (h:PE X a t):PE X (.BoolOp op [a] pos) t:=fun pins s σ H Q I hw=>BoolOp_one (h pins s σ H Q I hw)
theorem Ju (ha:PE X a ta) (hb:PE X (.BoolOp .And (b :: rest) pos) tb):PE X (.BoolOp .And (a :: b :: rest) pos) (R5 ta tb):=by
 intro pins s σ H Q I h
 refine BoolOp_and (thn (ha pins s σ H _ I h) fun v s1 ⟨x,H1,I1,r1,q1⟩=>?_)
 obtain ⟨c,rfl,q1⟩:=q1
 cases r1
 refine wpAny_truthy_bool ?_
 cases c with
 | true=>exact hb pins s1 σ H1 Q I1 q1
 | false=>exact ⟨.bl false,H1,I1,rfl,q1⟩
theorem Lv (ha:PE X a ta):PE X (.UnaryOp .Not a pos) (P6 ta):=by
 intro pins s σ H Q I h
 refine UnaryOp_ (thn (ha pins s σ H _ I h) fun v s1 ⟨x,H1,I1,r1,q1⟩=>?_)
 obtain ⟨c,rfl,q1⟩:=q1
 cases r1
 exact not_of (wpAny_truthy_bool ⟨.bl (!c),H1,I1,rfl,q1⟩)
def tIf (t:TT) (ta tb:TE):TE:=fun σ H Q=>t σ H fun c H1=>if c=true then ta σ H1 Q else tb σ H1 Q
theorem LO {c:Expr} (hc:PT X c tA) (ha:PE X a ta) (hb:PE X b tb):PE X (.IfExp c a b pos) (tIf tA ta tb):=by
 intro pins s σ H Q I h
 refine wpAny_IfExp (thn (hc pins s σ H _ I h) fun d s1 ⟨H1,I1,q1⟩=>?_)
 cases d with
 | true=>exact ha pins s1 σ H1 Q I1 q1
 | false=>exact hb pins s1 σ H1 Q I1 q1
end
end L2
namespace L2
open PySem PySem.Spec PyProof.Rows
def SqL (K:PySem.W.Frag) (H:Hp) (a:Addr) (xs:List V):Prop :=
 Rd H a (.lst xs) ∨
  ∃ (o:Obj) (its:Array Value) (n:Nat),K.lookup a=some o∧o.cls=.type "list" ∧ o.dict=none∧o.data=.seq its n∧its.size≤sizeLine∧Vals xs its.toList
def SqT (K:PySem.W.Frag) (H:Hp) (a:Addr) (xs:List V):Prop :=
 Rd H a (.tup xs) ∨
  ∃ (o:Obj) (its:Array Value) (n:Nat),K.lookup a=some o∧o.cls=.type "tuple" ∧ o.data=.seq its n∧its.size≤sizeLine∧Vals xs its.toList
def Sv:Value→Option V
 | .none=>some .non
 | .bool b=>some (.bl b)
 | .int i _=>some (.int i)
 | .str x _=>some (.str x)
 | .bytes b _=>some (.byt b)
 | .float b _=>some (.flt b)
 | .ref a=>some (.ref a)
 | .type n=>some (.ty n)
 | _=>none
theorem RelV.abs {x:V} {u:Value} (r:RelV x u):Sv u=some x:=by
 cases x with
 | non=>cases r;rfl
 | bl _=>cases r;rfl
 | int _=>obtain ⟨t,rfl⟩:=r;rfl
 | str _=>obtain ⟨t,rfl⟩:=r;rfl
 | byt _=>obtain ⟨t,rfl⟩:=r;rfl
 | flt _=>obtain ⟨t,rfl⟩:=r;rfl
 | ref _=>cases r;rfl
 | ty _=>cases r;rfl
theorem RelV.inj {x y:V} {u:Value} (r:RelV x u) (q:RelV y u):x=y:=Option.some.inj (r.abs.symm.trans q.abs)
theorem Vals.inj:∀ {xs ys:List V} {us:List Value},Vals xs us→Vals ys us→xs=ys
 | _,_,_,.nil,.nil=>rfl
 | _,_,_,.cons r t,.cons r' t'=>by rw [r.inj r',Vals.inj t t']
section
variable {X:Cx} {pins:List (9:)} {σ:St} {H:Hp} {s:Shared} {a:Addr} {xs ys:List V}
theorem SqL.of {K:PySem.W.Frag} (h:H a=some (.lst xs)):SqL K H a xs:=.inl (.inl h)
theorem SqT.of {K:PySem.W.Frag} (h:H a=some (.tup xs)):SqT K H a xs:=.inl (.inl h)
theorem Inv.list (I:Inv X pins σ H s) (h:SqL X.K H a xs):∃ its:List Value,Vals xs its∧PlainL s.heap a its.toArray∧xs.length≤sizeLine:=by
 rcases h with h | ⟨o,its,n,hk,hc,hd,hs,hz,r⟩
 ·obtain ⟨z,its,n,r,e⟩:=h.ok I.hok
  exact ⟨its,r,⟨_,n,e,rfl,rfl,rfl⟩,z⟩
 ·refine ⟨its.toList,r,⟨o,n,I.kIn a o hk,hc,hd,by simpa using hs⟩,?_⟩
  have e:=r.length
  simp only [Array.length_toList] at e
  lia
theorem Inv.tuple (I:Inv X pins σ H s) (h:SqT X.K H a xs):∃ its:List Value,Vals xs its∧IsTup s.heap a its.toArray∧xs.length≤sizeLine:=by
 rcases h with h | ⟨o,its,n,hk,hc,hs,hz,r⟩
 ·obtain ⟨z,its,r,p⟩:=h.ok I.hok
  exact ⟨its,r,p,z⟩
 ·refine ⟨its.toList,r,⟨o,I.kIn a o hk,hc,n,by simpa using hs⟩,?_⟩
  have e:=r.length
  simp only [Array.length_toList] at e
  lia
theorem Inv.list_inj (I:Inv X pins σ H s) (h:SqL X.K H a xs) (h':SqL X.K H a ys):xs=ys:=by
 obtain ⟨its,r,⟨o,n,e,_,_,d⟩,_⟩:=I.list h
 obtain ⟨its',r',⟨o',n',e',_,_,d'⟩,_⟩:=I.list h'
 rw [e] at e';cases e'
 rw [d] at d'
 injection d' with d1 _
 have:its=its':=by simpa using congrArg Array.toList d1
 subst this
 exact r.inj r'
theorem Inv.tuple_inj (I:Inv X pins σ H s) (h:SqT X.K H a xs) (h':SqT X.K H a ys):xs=ys:=by
 obtain ⟨its,r,⟨o,e,_,n,d⟩,_⟩:=I.tuple h
 obtain ⟨its',r',⟨o',e',_,n',d'⟩,_⟩:=I.tuple h'
 rw [e] at e';cases e'
 rw [d] at d'
 injection d' with d1 _
 have:its=its':=by simpa using congrArg Array.toList d1
 subst this
 exact r.inj r'
end
abbrev Cx.wish (X:Cx) (E:Value→Shared→Prop):Cx:={ X with xe:=E }
abbrev Cx.nox (X:Cx):Cx:=X.wish fun _ _=>False
theorem Cx.Ok.wish {X:Cx} (ok:X.Ok) (E:Value→Shared→Prop):(X.wish E).Ok :=
 ⟨ok.mod,ok.kind,ok.glob,ok.blt,ok.above,ok.inj,ok.has,ok.cab,ok.hd,ok.frames,ok.stk,ok.exf,ok.bs,ok.bsz,ok.noex,ok.exfs,ok.funs,ok.frf⟩
theorem Cx.Ok.unwish {X:Cx} {E:Value→Shared→Prop} (ok:(X.wish E).Ok):X.Ok :=
 ⟨ok.mod,ok.kind,ok.glob,ok.blt,ok.above,ok.inj,ok.has,ok.cab,ok.hd,ok.frames,ok.stk,ok.exf,ok.bs,ok.bsz,ok.noex,ok.exfs,ok.funs,ok.frf⟩
section
variable {X:Cx} {pins:List (9:)} {σ:St} {H:Hp} {s:Shared} {E:Value→Shared→Prop}
theorem Inv.wish (I:Inv X pins σ H s) (E:Value→Shared→Prop):Inv (X.wish E) pins σ H s:=⟨I.ok.wish E,I.os,I.bare,I.base,I.loc,I.cell,I.free,I.freeC,I.pin,I.hok,I.len⟩
theorem Inv.unwish (I:Inv (X.wish E) pins σ H s):Inv X pins σ H s:=⟨I.ok.unwish,I.os,I.bare,I.base,I.loc,I.cell,I.free,I.freeC,I.pin,I.hok,I.len⟩
theorem SP.unwish {D:Ends} {f:Flow} {s':Shared} (h:SP (X.wish E) pins D f s'):SP X pins D f s':=by
 cases f with
 | next=>obtain ⟨σ',H',I,q⟩:=h;exact ⟨σ',H',I.unwish,q⟩
 | brk=>obtain ⟨σ',H',I,q⟩:=h;exact ⟨σ',H',I.unwish,q⟩
 | cont=>obtain ⟨σ',H',I,q⟩:=h;exact ⟨σ',H',I.unwish,q⟩
 | ret u=>obtain ⟨v,σ',H',I,r,q⟩:=h;exact ⟨v,σ',H',I.unwish,r,q⟩
theorem PE.nox {e:Expr} {t:TE} (h:PE X.nox e t):PE X e t:=fun pins s σ H Q I hw =>
 wpAny_mono (h pins s σ H Q (I.wish _) hw) (fun _ _ ⟨v,H',I',r,q⟩=>⟨v,H',I'.unwish,r,q⟩) fun _ _ z=>False.elim z
theorem PSs.nox {st:List Stmt} {t:TS} (h:PSs X.nox st t):PSs X st t:=fun pins s σ H D I hw =>
 wpAny_mono (h pins s σ H D (I.wish _) hw) (fun _ _ q=>q.unwish) fun _ _ z=>False.elim z
end
section
variable {X:Cx} {st:Stmt} {rest:List Stmt} {t u:TS} {e:Expr} {te:TE} {pos:Pos}
def RV:TS:=fun D σ H=>D.nx σ H
def Sw (t u:TS):TS:=fun D σ H=>t { D with nx:=u D } σ H
theorem Qu:PSs X [] RV:=fun _ _ σ H _ I h=>wpAny_execs_nil ⟨σ,H,I,h⟩
theorem Qe (h1:PS X st t) (h2:PSs X rest u):PSs X (st :: rest) (Sw t u):=by
 intro pins s σ H D I h
 refine wpAny_execs_cons (thn (h1 pins s σ H { D with nx:=u D } I h) fun f s1 q=>?_)
 cases f with
 | next =>
  obtain ⟨σ',H',I',q⟩:=q
  exact h2 pins s1 σ' H' D I' q
 | ret v=>exact q
 | brk=>exact q
 | cont=>exact q
theorem Qh (h1:PS X st t):PSs X [st] t:=by
 intro pins s σ H D I h
 refine wpAny_execs_cons (thn (h1 pins s σ H D I h) fun f s1 q=>?_)
 cases f with
 | next=>exact wpAny_execs_nil q
 | ret v=>exact q
 | brk=>exact q
 | cont=>exact q
theorem Inv.quiet {pins:List (9:)} {σ:St} {H:Hp} {s:Shared} (I:Inv X pins σ H s):interactive X.env=false:=by simp [interactive,I.ok.kind]
def R8 (te:TE):TS:=fun D σ H=>te σ H fun _ H1=>D.nx σ H1
theorem QI (he:PE X e te) (hs:swapsWith e none pos.line X.env=pure false:=by rfl):PS X (.Expr e pos) (R8 te):=by
 intro pins s σ H D I h
 exact wpAny_Expr_any (thn (he pins s σ H _ I h) fun v s1 ⟨x,H1,I1,r1,q1⟩=>⟨σ,H1,I1,q1⟩) I.quiet hs
def SJ (te:TE):TS:=fun D σ H=>te σ H D.rt
theorem Qp (he:PE X e te):PS X (.Return (some e) pos) (SJ te):=by
 intro pins s σ H D I h
 exact wpAny_Return_some (thn (he pins s σ H _ I h) fun v s1 ⟨x,H1,I1,r1,q1⟩=>⟨x,σ,H1,I1,r1,q1⟩)
def Sn (c:TT) (t u:TS):TS:=fun D σ H=>c σ H fun b H1=>if b=true then t D σ H1 else u D σ H1
theorem QL {c:Expr} {a b:List Stmt} {tc:TT} (hc:PT X c tc) (ha:PSs X a t) (hb:PSs X b u):PS X (.If c a b pos) (Sn tc t u):=by
 intro pins s σ H D I h
 refine wpAny_If (thn (hc pins s σ H _ I h) fun d s1 ⟨H1,I1,q1⟩=>?_)
 cases d with
 | true=>exact ha pins s1 σ H1 D I1 q1
 | false=>exact hb pins s1 σ H1 D I1 q1
end
abbrev TG:=V→St→Hp→(St→Hp→Prop)→Prop
abbrev TGs:=List V→St→Hp→(St→Hp→Prop)→Prop
def PG (X:Cx) (target:Expr) (t:TG):Prop :=
 ∀ (pins:List (9:)) (s:Shared) (σ:St) (H:Hp) (v:V) (u:Value) (Q:St→Hp→Prop),Inv X pins σ H s→RelV v u→t v σ H Q →
  wpAny (6:) X.A (assign target X.env u) (fun _ s'=>∃ σ' H',Inv X pins σ' H' s'∧Q σ' H') X.xe s
def PGs (X:Cx) (ts:List Expr) (t:TGs):Prop :=
 ∀ (pins:List (9:)) (s:Shared) (σ:St) (H:Hp) (vs:List V) (us:List Value) (Q:St→Hp→Prop),Inv X pins σ H s→Vals vs us→t vs σ H Q →
  wpAny (6:) X.A (assignInOrder ((assignEach ts X.env).map (·.2)) us) (fun _ s'=>∃ σ' H',Inv X pins σ' H' s'∧Q σ' H') X.xe s
abbrev PH:=V→V→V→Hp→(Hp→Prop)→Prop
def R6 (X:Cx) (t:PH):Prop :=
 ∀ (pins:List (9:)) (s:Shared) (σ:St) (H:Hp) (o i v:V) (ov iv u:Value) (Q:Hp→Prop),Inv X pins σ H s→RelV o ov→RelV i iv→RelV v u→t o i v H Q →
  wpAny (6:) X.A (setItem ov iv u) (fun _ s'=>∃ H',Inv X pins σ H' s'∧Q H') X.xe s
section
variable {X:Cx} {pos:Pos}
def Zd (i:Nat):TG:=fun v σ H Q=>Q (σ.set i (some v)) H
theorem QC {i:Nat} {x:Str} (hN:X.N.Nodup) (hi:X.N[i]?=some x) (hx:Loc X.env.scope x) (hf:X.fn x=true∨X.env.scope.names.lookup x=some .local:=by first | exact .inl rfl | exact .inr rfl | assumption):PG X (.Name x pos) (Zd i):=by
 intro pins s σ H v u Q I r h
 exact wpAny_assign_Name (UI I hN hi hx r (fun s' I'=>⟨_,H,I',h⟩) hf)
def MX:TGs:=fun vs σ H Q=>vs=[]∧Q σ H
def YW (t:TG) (u:TGs):TGs:=fun vs σ H Q=>∃ v r,vs=v :: r∧t v σ H fun σ' H'=>u r σ' H' Q
theorem YL:PGs X [] MX:=by
 intro pins s σ H vs us Q I r h
 obtain ⟨e,h⟩:=h
 subst e
 cases r
 exact assignInOrder_nil ⟨σ,H,I,h⟩
theorem Q4 {e:Expr} {es:List Expr} {t:TG} {u:TGs} (h1:PG X e t) (h2:PGs X es u)
 (hs:(assignEach (e :: es) X.env).map (·.2)=assign e X.env :: (assignEach es X.env).map (·.2):=by rfl):PGs X (e :: es) (YW t u):=by
 intro pins s σ H vs us Q I r h
 obtain ⟨v,vr,e1,h⟩:=h
 subst e1
 cases r with
 | cons r rr =>
  rw [hs]
  refine assignInOrder_cons (thn (h1 pins s σ H _ _ _ I r h) fun _ s1 ⟨σ1,H1,I1,q1⟩=>?_)
  exact h2 pins s1 σ1 H1 _ _ Q I1 rr q1
def Ls (K:PySem.W.Frag) (n:Nat) (t:TGs):TG:=fun v σ H Q=>∃ a xs,v=.ref a∧SqT K H a xs∧xs.length=n∧t xs σ H Q
theorem UG {es:List Expr} {k:Nat} {t:TGs} {n:Nat} (hc:X.calm=true) (h:PGs X es t)
 (hn:(assignEach es X.env).length=n:=by rfl) (hst:(assignEach es X.env).findIdx? (·.1)=none:=by rfl):PG X (.Tuple es k pos) (Ls X.K n t):=by
 intro pins s σ H v u Q I r hw
 obtain ⟨a,xs,e1,hq,hl,hw⟩:=hw
 subst e1
 cases r
 obtain ⟨its,rv,ht,hz⟩:=I.tuple hq
 refine assign_Tuple_tuple (I.ok.hd hc) ht (by simp [hn,← hl,rv.length]) hst fun h' hx=>?_
 have I1:Inv X pins σ H { s with heap:=h' }:=I.kept (t':=s.toks) fun b o e=>hx b o (Nat.ne_of_lt (58:)) e
 exact h pins _ σ H xs _ Q I1 (by simpa using rv) hw
def Sh (to ti:TE) (t:PH):TG:=fun v σ H Q=>to σ H fun o H1=>ti σ H1 fun i H2=>t o i v H2 fun H3=>Q σ H3
theorem Y1 {o i:Expr} {to ti:TE} {t:PH} (ho:PE X o to) (hi:PE X i ti) (hs:R6 X t)
 (ha:∀ v,assign (.Subscript o i pos) X.env v=(do
  let ov ← holding [v] (eval o X.env)
  let iv ← holding [v,ov] (eval i X.env)
  standAt pos
  holding [v,ov,iv] (setItem ov iv v)
  release [v,ov,iv] []):=by intro _;rfl):PG X (.Subscript o i pos) (Sh to ti t):=by
 intro pins s σ H v u Q I r h
 rw [ha]
 refine wpAny_bind (wpAny_holding (thn (ho pins s σ H _ I h) fun ov s1 ⟨x,H1,I1,r1,q1⟩=>?_))
 refine wpAny_bind (wpAny_holding (thn (hi pins s1 σ H1 _ I1 q1) fun iv s2 ⟨y,H2,I2,r2,q2⟩=>?_))
 refine wpAny_bind (wpAny_standAt (wpAny_bind (wpAny_holding (thn (hs pins s2 σ H2 x y v ov iv u _ I2 r1 r2 r q2) fun _ s3 ⟨H3,I3,q3⟩=>?_))))
 exact wpAny_release ⟨σ,H3,I3,q3⟩
def PJ (te:TE) (g:TG):TS:=fun D σ H=>te σ H fun x H1=>g x σ H1 D.nx
theorem Y6 {tg e:Expr} {te:TE} {g:TG} (he:PE X e te) (hg:PG X tg g) (hs:swapsWithSole [tg] e pos.line X.env=pure false:=by rfl) (hw:swappedStores [tg] e X.env=pure none:=by rfl)
 (h1:(assignEach [tg] X.env).map (·.2)=[assign tg X.env]:=by rfl):PS X (.Assign [tg] e pos) (PJ te g):=by
 intro pins s σ H D I h
 refine wpAny_Assign_stores (thn (he pins s σ H _ I h) fun v s1 ⟨x,H1,I1,r1,q1⟩=>?_) hs hw
 rw [h1]
 exact thn (hg pins s1 σ H1 x v _ I1 r1 q1) fun _ s2 q=>q
theorem Qn {i:Nat} {x:Str} {e:Expr} {te:TE} {pos':Pos} (hN:X.N.Nodup) (hi:X.N[i]?=some x) (hx:Loc X.env.scope x) (he:PE X e te) (hs:swapsWith e (some (.Name x pos')) pos.line X.env=pure false:=by rfl) (hf:X.fn x=true∨X.env.scope.names.lookup x=some .local:=by first | exact .inl rfl | exact .inr rfl | assumption) :
 PS X (.Assign [.Name x pos'] e pos) (PJ te (Zd i)):=by
 intro pins s σ H D I h
 refine wpAny_Assign_Name (thn (he pins s σ H _ I h) fun v s1 ⟨y,H1,I1,r1,q1⟩=>?_) hs
 exact UI I1 hN hi hx r1 (fun s2 I2=>⟨_,H1,I2,q1⟩) hf
end
section
variable {X:Cx} {pos:Pos}
def OY (c:TT) (tb:TS):TS:=fun D σ H=>∃ W:Nat→St→Hp→Prop,(∃ m,W m σ H)∧∀ m σ H,W m σ H →
 c σ H fun b H1=>if b=true then ∃ N:St→Hp→Prop,(∀ σ' H',N σ' H'→∃ m',m' < m∧W m' σ' H')∧tb { D with nx:=N,ct:=N,bk:=D.nx } σ H1 else D.nx σ H1
theorem LW {c:Expr} {body:List Stmt} {tc:TT} {tb:TS} (hp:PassesOwn (6:) X.A X.env X.xe) (hc:PT X c tc) (hb:PSs X body tb):PS X (.While c body [] pos) (OY tc tb):=by
 intro pins s σ H D I h
 obtain ⟨W,⟨m0,w0⟩,turn⟩:=h
 refine wpAny_While (codeAny_whileLoop (fun n s'=>∃ σ' H',Inv X pins σ' H' s'∧W n σ' H') ?_ m0 ⟨σ,H,I,w0⟩)
 rintro n s1 ⟨σ1,H1,I1,w1⟩
 refine wpAny_passesOwn hp (thn (hc pins s1 σ1 H1 _ I1 (turn n σ1 H1 w1)) fun b s2 ⟨H2,I2,q2⟩=>?_)
 cases b with
 | true =>
  obtain ⟨N,hN,q2⟩:=q2
  rw [if_pos rfl]
  refine wpAny_passesOwn hp (thn (hb pins s2 σ1 H2 _ I2 q2) fun f s3 q3=>?_)
  cases f with
  | next =>
   obtain ⟨σ3,H3,I3,n3⟩:=q3
   obtain ⟨m',hm,w3⟩:=hN σ3 H3 n3
   exact ⟨m',hm,σ3,H3,I3,w3⟩
  | cont =>
   obtain ⟨σ3,H3,I3,n3⟩:=q3
   obtain ⟨m',hm,w3⟩:=hN σ3 H3 n3
   exact ⟨m',hm,σ3,H3,I3,w3⟩
  | brk=>exact q3
  | ret v=>exact q3
 | false =>
  rw [if_neg Bool.false_ne_true]
  exact wpAny_execs_nil ⟨σ1,H2,I2,q2⟩
end
structure It where
 go:Nat→Hp→Prop
 yld:Nat→Hp→V→Hp→Prop
 stop:Nat→Hp→Prop
def YC (X:Cx) (pins:List (9:)) (H:Hp) (b:Addr):Prop :=
 H b=none∧b≠X.env.locals∧b ∉ X.fs∧(b ∈ X.ex∨X.s₀.heap.objs.size≤b)∧(∀ x c,X.env.cells.lookup x=some c→c≠b)∧∀ p ∈ X.pn ++ pins,p.1≠b
theorem Inv.fpOk {X:Cx} {pins:List (9:)} {σ:St} {H H':Hp} {s:Shared} {b:Addr} (I:Inv X pins σ H s) (hb:s.heap.objs.size≤b) (hn:H' b=none):YC X pins H' b:=by
 refine ⟨hn,Nat.ne_of_gt (Nat.lt_of_lt_of_le I.lt hb),I.nofs hb,.inr (Nat.le_trans I.sz hb),fun x c e z=>?_,fun p hp z=>?_⟩
 ·obtain ⟨v,q⟩:=I.cell x c e
  exact absurd (Nat.lt_of_lt_of_le q.lt (by rw [z];exact hb)) (Nat.lt_irrefl _)
 ·exact absurd (Nat.lt_of_lt_of_le (Heap.lt_size (I.pin p hp).1) (by rw [z];exact hb)) (Nat.lt_irrefl _)
structure Turn (P:Program) (w:World) (K:PySem.W.Frag) (tg:Expr) (J:It) (fp:List Addr) (it:Addr) (tn:Nat→Heap→Prop):Prop where
 mem:it ∈ fp
 obj:∀ i h,tn i h→∀ b ∈ fp,∃ o,h.get? b=some o∧∀ v,o.data≠.cell v
 keep:∀ i h h',tn i h→(∀ b ∈ fp,∀ o,h.get? b=some o→h'.get? b=some o)→tn i h'
 item:∀ (X:Cx),X.prog=P→X.w=w→X.K=K→X.calm=true→∀ (i:Nat) (pins:List (9:)) (s:Shared) (σ:St) (H:Hp) (E:Value→Shared→Prop),Inv X pins σ H s→(∀ b ∈ fp,YC X pins H b)→tn i s.heap→J.go i H →
  wpAny (model P w) X.A (pyNext (.ref it)) (fun r s1=>∃ u,r=some u ∧
   wpAny (model P w) X.A (letOwnedTupleGo tg (.ref it) u) (fun _ s2=>∃ x H',Inv X pins σ H' s2∧RelV x u∧J.yld i H x H'∧tn (i + 1) s2.heap∧∀ b ∈ fp,H' b=none) E s1) E s
 done:∀ (X:Cx),X.prog=P→X.w=w→X.K=K→X.calm=true→∀ (i:Nat) (pins:List (9:)) (s:Shared) (σ:St) (H:Hp) (E:Value→Shared→Prop),Inv X pins σ H s→(∀ b ∈ fp,YC X pins H b)→tn i s.heap→J.stop i H →
  wpAny (model P w) X.A (pyNext (.ref it)) (fun r s1=>r=none∧Inv X pins σ H s1) E s
 self:∀ (A:Around) (i:Nat) (s:Shared) (Q:Value→Shared→Prop) (E:Value→Shared→Prop),tn i s.heap→Q (.ref it) s→wpAny (model P w) A (pyIter (.ref it)) Q E s
abbrev TI:=St→Hp→(It→Hp→Prop)→Prop
def PIE (X:Cx) (pins:List (9:)) (σ:St) (tg:Expr) (R:It→Hp→Prop) (itv:Value) (s2:Shared):Prop :=
 ∃ (it:Addr) (fp:List Addr) (tn:Nat→Heap→Prop) (J:It) (H':Hp),itv=.ref it∧Inv X pins σ H' s2∧Turn X.prog X.w X.K tg J fp it tn∧tn 0 s2.heap∧(∀ b ∈ fp,YC X pins H' b)∧R J H'
def PI (X:Cx) (tg iter:Expr) (wi:TI):Prop :=
 ∀ (pins:List (9:)) (s:Shared) (σ:St) (H:Hp) (R:It→Hp→Prop),Inv X pins σ H s→wi σ H R →
  wpAny (6:) X.A (eval iter X.env) (fun v s1=>wpAny (6:) X.A (pyIter v) (PIE X pins σ tg R) X.xe s1) X.xe s
theorem XX {M:Model} {A:Around} {E:Value→Shared→Prop} {s:Shared} {tg:Expr} {it:Addr} {u:Value} {o:Obj} {n:String} {vs:Array Value} {Q:Unit→Shared→Prop} (ho:s.heap.get? it=some o) (hc:o.cls=.type n) (hd:o.data=.fields vs)
 (hn:["enumerate", "zip", "dict_itemiterator", "dict_reverseitemiterator", "odict_iterator", "itertools.zip_longest", "itertools.pairwise"].contains n=false) (hQ:Q () s):wpAny M A (letOwnedTupleGo tg (.ref it) u) Q E s:=by
 unfold letOwnedTupleGo
 cases tg <;> first
  | exact wpAny_pure hQ
  | (cases u <;> first
   | exact wpAny_pure hQ
   | (refine wpAny_bind (wpAny_load ho ?_)
      rw [hc,hd]
      show wpAny M A (if (["enumerate", "zip", "dict_itemiterator", "dict_reverseitemiterator", "odict_iterator", "itertools.zip_longest", "itertools.pairwise"].contains n && vs[0]? == some (rawInt _))=true then _ else _) Q E s
      rw [if_neg (by intro h;rw [hn,Bool.false_and] at h;cases h)]
      exact wpAny_pure hQ))
def Itl (K:PySem.W.Frag) (a:Addr):It :=
 ⟨fun i H=>∃ xs x,SqL K H a xs∧xs[i]?=some x,fun i H x H'=>H'=H∧∀ xs,SqL K H a xs→xs[i]?=some x,fun i H=>∃ xs,SqL K H a xs∧xs.length≤i⟩
def Itt (K:PySem.W.Frag) (a:Addr):It :=
 ⟨fun i H=>∃ xs x,SqT K H a xs∧xs[i]?=some x,fun i H x H'=>H'=H∧∀ xs,SqT K H a xs→xs[i]?=some x,fun i H=>∃ xs,SqT K H a xs∧xs.length≤i⟩
def Itr (lo:Int) (n:Nat):It:=⟨fun i _=>i < n,fun i H x H'=>H'=H∧x=.int (lo + i),fun i _=>n≤i⟩
theorem V6 {P:Program} {w:World} {K:PySem.W.Frag} {tg:Expr} (a it:Addr):Turn P w K tg (Itl K a) [it] it (fun i h=>h.IsListIter it a i) where
 mem:=by simp
 obj:=fun i h st b hb=>by
  have e:b=it:=by simpa using hb
  subst e
  obtain ⟨o,e,c,d⟩:=st
  exact (48:)
 keep:=fun i h h' st k=>st.at fun o e=>k it (24:) o e
 item:=by
  intro X hP hw hK hc i pins s σ H E I hf st hg
  subst hP hw hK
  obtain ⟨xs,x,hq,hx⟩:=hg
  obtain ⟨its,rv,p,hz⟩:=I.list hq
  obtain ⟨u,hu,ru⟩:=rv.get hx
  obtain ⟨f0,f1,f2,f3,f4,f5⟩:=hf it (24:)
  refine wpAny_pyNext_list_item st p.isList (x:=u) (by simpa using hu) fun h' st' sb=>?_
  have I1:Inv X pins σ H { s with heap:=h' }:=I.turned (t':=s.toks) (fun b o hb e=>(sb.2 b hb).trans e) f0 f1 f3 f4 f5
  obtain ⟨o,e,c,d⟩:=id st'
  exact ⟨u,rfl,XX (s:={ s with heap:=h' }) e c d (27:) ⟨x,H,I1,ru,⟨rfl,fun ys hy=>by rw [I.list_inj hy hq];exact hx⟩,st',fun b hb=>(hf b hb).1⟩⟩
 done:=by
  intro X hP hw hK hc i pins s σ H E I hf st hg
  subst hP hw hK
  obtain ⟨xs,hq,hx⟩:=hg
  obtain ⟨its,rv,p,hz⟩:=I.list hq
  obtain ⟨f0,f1,f2,f3,f4,f5⟩:=hf it (24:)
  have hl:=rv.length
  exact wpAny_pyNext_list_end (I.ok.hd hc) st p.isList (by simp;lia) fun h' eb=>(36:)
 self:=fun _ _ _ _ _ st h=>wpAny_pyIter_listiter st h
theorem Vb {P:Program} {w:World} {K:PySem.W.Frag} {tg:Expr} (a it:Addr):Turn P w K tg (Itt K a) [it] it (fun i h=>h.IsTupleIter it a i) where
 mem:=by simp
 obj:=fun i h st b hb=>by
  have e:b=it:=by simpa using hb
  subst e
  obtain ⟨o,e,c,d⟩:=st
  exact (48:)
 keep:=fun i h h' st k=>st.at fun o e=>k it (24:) o e
 item:=by
  intro X hP hw hK hc i pins s σ H E I hf st hg
  subst hP hw hK
  obtain ⟨xs,x,hq,hx⟩:=hg
  obtain ⟨its,rv,p,hz⟩:=I.tuple hq
  obtain ⟨u,hu,ru⟩:=rv.get hx
  obtain ⟨f0,f1,f2,f3,f4,f5⟩:=hf it (24:)
  refine wpAny_pyNext_tuple_item st (show s.heap.IsTuple a its.toArray from p) (x:=u) (by simpa using hu) fun h' st' sb=>?_
  have I1:Inv X pins σ H { s with heap:=h' }:=I.turned (t':=s.toks) (fun b o hb e=>(sb.2 b hb).trans e) f0 f1 f3 f4 f5
  obtain ⟨o,e,c,d⟩:=id st'
  exact ⟨u,rfl,XX (s:={ s with heap:=h' }) e c d (27:) ⟨x,H,I1,ru,⟨rfl,fun ys hy=>by rw [I.tuple_inj hy hq];exact hx⟩,st',fun b hb=>(hf b hb).1⟩⟩
 done:=by
  intro X hP hw hK hc i pins s σ H E I hf st hg
  subst hP hw hK
  obtain ⟨xs,hq,hx⟩:=hg
  obtain ⟨its,rv,p,hz⟩:=I.tuple hq
  obtain ⟨f0,f1,f2,f3,f4,f5⟩:=hf it (24:)
  have hl:=rv.length
  exact wpAny_pyNext_tuple_end (I.ok.hd hc) st (show s.heap.IsTuple a its.toArray from p) (by simp;lia) fun h' eb=>(36:)
 self:=fun _ _ _ _ _ st h=>wpAny_pyIter_tupleiter st h
theorem W4 {P:Program} {w:World} {K:PySem.W.Frag} {tg:Expr} (it:Addr) (lo:Int) (n:Nat):Turn P w K tg (Itr lo n) [it] it (fun i h=>IsRangeIter h it (lo + (i:Nat) * 1) ((n:Int) - (i:Nat)) 1) where
 mem:=by simp
 obj:=fun i h st b hb=>by
  have e:b=it:=by simpa using hb
  subst e
  exact ⟨_,st,fun v z=>by
   have z':Data.fields _=Data.cell v:=z
   cases z'⟩
 keep:=fun i h h' st k=>k it (24:) _ st
 item:=by
  intro X hP hw hK hc i pins s σ H E I hf st hg
  subst hP hw hK
  obtain ⟨f0,f1,f2,f3,f4,f5⟩:=hf it (24:)
  have W:=Walks.range (prog:=X.prog) (w:=X.w) (I.ok.hd hc) it lo 1 n
  refine W.item i s _ _ hg st fun v h' tk hv st' kk=>?_
  obtain ⟨t,rfl⟩:=hv
  have I1:Inv X pins σ H { s with heap:=h',toks:=tk }:=I.turned (fun b o hb e=>kk b o (by simpa using hb) e) f0 f1 f3 f4 f5
  refine ⟨_,rfl,XX (s:={ s with heap:=h',toks:=tk }) (n:="range_iterator") st' rfl rfl (27:) ⟨.int (lo + i),H,I1,⟨t,?_⟩,⟨rfl,rfl⟩,st',fun b hb=>(hf b hb).1⟩⟩
  rw [Int.mul_one]
 done:=by
  intro X hP hw hK hc i pins s σ H E I hf st hg
  subst hP hw hK
  obtain ⟨f0,f1,f2,f3,f4,f5⟩:=hf it (24:)
  exact wpAny_pyNext_range_end (I.ok.hd hc) st (by have:n≤i:=hg;lia) fun h' eb=>(36:)
 self:=fun _ _ _ _ _ st h=>wpAny_pyIter_rangeiter st h
end L2
namespace L2
open PySem PySem.Spec PyProof.Rows
section
variable {X:Cx} {tg:Expr}
def Oz (K:PySem.W.Frag) (tl:TE):TI:=fun σ H R=>tl σ H fun x H1=>∃ a,x=.ref a∧(∃ xs,SqL K H1 a xs)∧R (Itl K a) H1
def Sj (K:PySem.W.Frag) (tl:TE):TI:=fun σ H R=>tl σ H fun x H1=>∃ a,x=.ref a∧(∃ xs,SqT K H1 a xs)∧R (Itt K a) H1
theorem QT {l:Expr} {tl:TE} (hl:PE X l tl):PI X tg l (Oz X.K tl):=by
 intro pins s σ H R I h
 refine thn (hl pins s σ H _ I h) fun v s1 ⟨x,H1,I1,r1,q1⟩=>?_
 obtain ⟨a,e,⟨xs,hq⟩,q⟩:=q1
 subst e
 cases r1
 obtain ⟨its,rv,p,hz⟩:=I1.list hq
 refine wpAny_pyIter_list p.isList ?_
 refine ⟨s1.heap.objs.size,[s1.heap.objs.size],_,_,H1,rfl,I1.kept (t':=s1.toks) fun b o e=>Heap.get?_push_of_some _ e,V6 a _,(55:),fun b hb=>?_,q⟩
 have e:b=s1.heap.objs.size:=by simpa using hb
 subst e
 exact I1.fpOk (7:) (I1.hok.fresh (7:))
theorem Jr {l:Expr} {tl:TE} (hl:PE X l tl):PI X tg l (Sj X.K tl):=by
 intro pins s σ H R I h
 refine thn (hl pins s σ H _ I h) fun v s1 ⟨x,H1,I1,r1,q1⟩=>?_
 obtain ⟨a,e,⟨xs,hq⟩,q⟩:=q1
 subst e
 cases r1
 obtain ⟨its,rv,p,hz⟩:=I1.tuple hq
 refine wpAny_pyIter_tuple (show s1.heap.IsTuple a its.toArray from p) ?_
 refine ⟨s1.heap.objs.size,[s1.heap.objs.size],_,_,H1,rfl,I1.kept (t':=s1.toks) fun b o e=>Heap.get?_push_of_some _ e,Vb a _,(55:),fun b hb=>?_,q⟩
 have e:b=s1.heap.objs.size:=by simpa using hb
 subst e
 exact I1.fpOk (7:) (I1.hok.fresh (7:))
theorem M5 {pins:List (9:)} {σ:St} {H:Hp} {s:Shared} {R:It→Hp→Prop} {E:Value→Shared→Prop} {lo hi:Int} {t u v:Tok} {tk:Nat} (I:Inv X pins σ H s) (h1:-(2 ^ 62)≤lo) (h2:lo < 2 ^ 62) (h3:-(2 ^ 62)≤hi) (h4:hi < 2 ^ 62)
 (q:R (Itr lo (hi - lo).toNat) H):wpAny (6:) X.A (pyIter (57:)) (PIE X pins σ tg R) E { s with heap:=s.heap.push { cls:=.type "range", data:=.fields #[.int lo t,.int hi u,.int 1 v] },toks:=tk }:=by
 refine wpAny_pyIter_range (IsRange.new ..) (small_one h1 h2 h3 h4) ?_
 have I1:Inv X pins σ H { s with heap:=s.heap.push { cls:=.type "range", data:=.fields #[.int lo t,.int hi u,.int 1 v] },toks:=tk }:=I.kept fun b o e=>Heap.get?_push_of_some _ e
 refine ⟨(s.heap.push { cls:=.type "range", data:=.fields #[.int lo t,.int hi u,.int 1 v] }).objs.size,[(s.heap.push { cls:=.type "range", data:=.fields #[.int lo t,.int hi u,.int 1 v] }).objs.size],_,_,H,rfl,I1.kept (t':=tk) fun b o e=>Heap.get?_push_of_some _ e,W4 _ lo (hi - lo).toNat,?_,fun b hb=>?_,q⟩
 ·have e1:lo + ((0:Nat):Int) * 1=lo:=by simp
  have e2:(((hi - lo).toNat:Nat):Int) - ((0:Nat):Int)=Builtin.Range.rangeSize lo hi 1:=by rw [rangeSize_one];split <;> lia
  show IsRangeIter _ _ (lo + ((0:Nat):Int) * 1) ((((hi - lo).toNat:Nat):Int) - ((0:Nat):Int)) 1
  rw [e1,e2]
  exact Heap.get?_push_size _ rfl
 ·have e:b=(s.heap.push { cls:=.type "range", data:=.fields #[.int lo t,.int hi u,.int 1 v] }).objs.size:=by simpa using hb
  subst e
  exact I1.fpOk (7:) (I1.hok.fresh (7:))
def RE (ta:TA):TI:=fun σ H R=>ta σ H fun vs H1=>∃ j:Int,vs=[.int j]∧-(2 ^ 62)≤j∧j < 2 ^ 62∧R (Itr 0 j.toNat) H1
theorem QX {a:Expr} {ta:TA} {p pos:Pos} (hg:Gl X "range") (hm:X.mg "range" = none) (ha:PA X [a] ta) (hs:starEach [a] X.env=[(false,eval a X.env)]:=by rfl):PI X tg (.Call (.Name "range" p) [a] [] pos) (RE ta):=by
 intro pins s σ H R I h
 refine Call_ (ZU I hg hm boot_range (PyProof.Rows.callWith_type1 (50:) hs rfl))
 obtain ⟨j,e,q1,q2,q⟩:=q1
 subst e
 cases r1 with
 | cons r rr =>
  cases rr
  obtain ⟨t,rfl⟩:=r
  exact call_range_1 (M5 I1 (10:) (10:) q1 q2 (by simpa using q))
def SB (wi:TI) (g:TG) (tb:TS):TS:=fun D σ H=>wi σ H fun J H1=>∃ W:Nat→Nat→St→Hp→Prop,(∃ m,W 0 m σ H1)∧∀ i m σ H,W i m σ H →
 (J.stop i H∧D.nx σ H)∨(J.go i H∧∃ N:St→Hp→Prop,(23:)∧∀ x H',J.yld i H x H'→g x σ H' fun σ2 H2=>tb { D with nx:=N,ct:=N,bk:=D.nx } σ2 H2)
def Jj (fp:List Addr) (h:Heap):List (9:):=fp.filterMap fun b=>(h.get? b).map fun o=>(b,o)
theorem ZY {fp:List Addr} {h:Heap} {b:Addr} {o:Obj} (hb:b ∈ fp) (e:h.get? b=some o):(b,o) ∈ Jj fp h:=List.mem_filterMap.mpr ⟨b,hb,by rw [e];rfl⟩
theorem Gn {fp:List Addr} {h:Heap} {p:Addr × Obj} (hp:p ∈ Jj fp h):p.1 ∈ fp∧h.get? p.1=some p.2:=by
 obtain ⟨b,hb,e⟩:=List.mem_filterMap.mp hp
 cases q:h.get? b with
 | none=>rw [q] at e;cases e
 | some o =>
  rw [q] at e
  have e':(b,o)=p:=Option.some.inj e
  subst e'
  exact ⟨hb,q⟩
theorem Inv.pinned {pins:List (9:)} {σ:St} {H:Hp} {s:Shared} {fp:List Addr} (I:Inv X pins σ H s) (hf:∀ b ∈ fp,YC X pins H b) (ho:∀ b ∈ fp,∃ o,s.heap.get? b=some o∧∀ v,o.data≠.cell v):Inv X (pins ++ Jj fp s.heap) σ H s :=
 I.pins_of fun p hp=>(List.mem_append.mp hp).elim (fun z=>I.pin p (List.mem_append_right _ z)) fun z=>by
  obtain ⟨hb,e⟩:=Gn z
  obtain ⟨f0,f1,f2,_⟩:=hf p.1 hb
  obtain ⟨o,e',d⟩:=ho p.1 hb
  rw [e] at e';cases e'
  exact ⟨e,f0,f1,f2,d⟩
theorem Inv.unpinned {pins pl:List (9:)} {σ:St} {H:Hp} {s:Shared} (I:Inv X (pins ++ pl) σ H s):Inv X pins σ H s:=I.pins_of fun p hp=>I.pin p (List.mem_append_right _ (List.mem_append_left _ hp))
theorem QU {iter:Expr} {body:List Stmt} {wi:TI} {g:TG} {tb:TS} {pos:Pos} (hp:PassesOwn (6:) X.A X.env X.xe) (hc:X.calm=true) (hi:PI X tg iter wi) (hg:PG X tg g) (hb:PSs X body tb)
 (hs:∀ x,foldedSetIterable iter X.env x=pure x:=by intro _;rfl):PS X (.For tg iter body [] pos) (SB wi g tb):=by
 intro pins s σ H D I h
 refine wpAny_For (thn (hi pins s σ H _ I h) fun v s1 h1=>thn h1 fun itv s2 h2=>?_) hs
 obtain ⟨it,fp,tn,J,H2,e,I2,T,st2,f2,W,⟨m0,w0⟩,turn⟩:=h2
 subst e
 have stat:∀ {H':Hp},(∀ b ∈ fp,H' b=none)→∀ b ∈ fp,YC X pins H' b:=fun hn b hb=>⟨hn b hb,(f2 b hb).2⟩
 refine codeAny_forLoop_any (fun n s'=>∃ i σ' H',Inv X pins σ' H' s'∧tn i s'.heap∧(∀ b ∈ fp,H' b=none)∧W i n σ' H') ?_ m0 ⟨0,σ,H2,I2,st2,fun b hb=>(f2 b hb).1,w0⟩
 rintro n s3 ⟨i,σ3,H3,I3,st3,fr3,w3⟩
 rcases turn i n σ3 H3 w3 with ⟨stop,qn⟩ | ⟨go,N,hN,step⟩
 ·refine wpAny_passesOwn hp (thn (T.done X rfl rfl rfl hc i pins s3 σ3 H3 X.xe I3 (stat fr3) st3 stop) fun r s4 ⟨hr,I4⟩=>?_)
  subst hr
  exact wpAny_execs_nil ⟨σ3,H3,I4,qn⟩
 ·refine wpAny_passesOwn hp (thn (T.item X rfl rfl rfl hc i pins s3 σ3 H3 X.xe I3 (stat fr3) st3 go) fun r s4 ⟨u,hr,h4⟩=>?_)
  subst hr
  refine wpAny_passesOwn hp (thn h4 fun _ s5 ⟨x,H5,I5,r5,y5,st5,fr5⟩=>?_)
  have I5':=I5.pinned (stat fr5) (T.obj _ _ st5)
  refine wpAny_passesOwn hp (thn (hg _ s5 σ3 H5 x u _ I5' r5 (step x H5 y5)) fun _ s6 ⟨σ6,H6,I6,q6⟩=>?_)
  refine wpAny_passesOwn hp (thn (hb _ s6 σ6 H6 _ I6 q6) fun f s7 q7=>?_)
  have again:∀ {σ7:St} {H7:Hp},Inv X (pins ++ Jj fp s5.heap) σ7 H7 s7→N σ7 H7→∃ m,m < n∧∃ i σ' H',Inv X pins σ' H' s7∧tn i s7.heap∧(∀ b ∈ fp,H' b=none)∧W i m σ' H':=fun {σ7 H7} I7 n7=>by
   obtain ⟨m',hm,w7⟩:=hN σ7 H7 n7
   refine ⟨m',hm,i + 1,σ7,H7,I7.unpinned,T.keep _ _ _ st5 fun b hb o e=>(I7.pin (b,o) (List.mem_append_right _ (List.mem_append_right _ (ZY hb e)))).1,fun b hb=>?_,w7⟩
   obtain ⟨o,e,d⟩:=T.obj _ _ st5 b hb
   exact (I7.pin (b,o) (List.mem_append_right _ (List.mem_append_right _ (ZY hb e)))).2.1
  cases f with
  | next=>obtain ⟨σ7,H7,I7,n7⟩:=q7;exact again I7 n7
  | cont=>obtain ⟨σ7,H7,I7,n7⟩:=q7;exact again I7 n7
  | brk=>obtain ⟨σ7,H7,I7,q7⟩:=q7;exact ⟨σ7,H7,I7.unpinned,q7⟩
  | ret v=>obtain ⟨x7,σ7,H7,I7,r7,q7⟩:=q7;exact ⟨x7,σ7,H7,I7.unpinned,r7,q7⟩
end
theorem ZF {K:PySem.W.Frag} {a:Addr} {xs:List V} {g:TG} {tb:TS} {D:Ends} {σ:St} {H:Hp} (Pv:Nat→St→Hp→Prop) (h0:Pv 0 σ H) (hl:∀ i σ H,i≤xs.length→Pv i σ H→SqL K H a xs)
 (hs:∀ i x σ H,xs[i]?=some x→Pv i σ H→g x σ H fun σ2 H2=>tb { D with nx:=Pv (i + 1),ct:=Pv (i + 1),bk:=D.nx } σ2 H2) (hd:∀ σ H,Pv xs.length σ H→D.nx σ H) :
 ∃ W:Nat→Nat→St→Hp→Prop,(∃ m,W 0 m σ H)∧∀ i m σ H,W i m σ H →
  ((Itl K a).stop i H∧D.nx σ H)∨((Itl K a).go i H∧∃ N:St→Hp→Prop,(23:)∧∀ x H',(Itl K a).yld i H x H'→g x σ H' fun σ2 H2=>tb { D with nx:=N,ct:=N,bk:=D.nx } σ2 H2):=by
 refine ⟨fun i m σ H=>m=xs.length - i∧i≤xs.length∧Pv i σ H,⟨xs.length,by simp,Nat.zero_le _,h0⟩,?_⟩
 rintro i m σ H ⟨rfl,hi,p⟩
 have q:=hl i σ H hi p
 by_cases hlt:i < xs.length
 ·refine .inr ⟨⟨xs,xs[i],q,by simp [hlt]⟩,Pv (i + 1),fun σ' H' p'=>⟨xs.length - (i + 1),by lia,rfl,hlt,p'⟩,fun x H' y=>?_⟩
  obtain ⟨e,y⟩:=y
  subst e
  exact hs i x σ _ (y xs q) p
 ·have e:i=xs.length:=by lia
  subst e
  exact .inl ⟨⟨xs,q,Nat.le_refl _⟩,hd σ H p⟩
theorem XJ {K:PySem.W.Frag} {a:Addr} {xs:List V} {g:TG} {tb:TS} {D:Ends} {σ:St} {H:Hp} (Pv:Nat→St→Hp→Prop) (h0:Pv 0 σ H) (hl:∀ i σ H,i≤xs.length→Pv i σ H→SqT K H a xs)
 (hs:∀ i x σ H,xs[i]?=some x→Pv i σ H→g x σ H fun σ2 H2=>tb { D with nx:=Pv (i + 1),ct:=Pv (i + 1),bk:=D.nx } σ2 H2) (hd:∀ σ H,Pv xs.length σ H→D.nx σ H) :
 ∃ W:Nat→Nat→St→Hp→Prop,(∃ m,W 0 m σ H)∧∀ i m σ H,W i m σ H →
  ((Itt K a).stop i H∧D.nx σ H)∨((Itt K a).go i H∧∃ N:St→Hp→Prop,(23:)∧∀ x H',(Itt K a).yld i H x H'→g x σ H' fun σ2 H2=>tb { D with nx:=N,ct:=N,bk:=D.nx } σ2 H2):=by
 refine ⟨fun i m σ H=>m=xs.length - i∧i≤xs.length∧Pv i σ H,⟨xs.length,by simp,Nat.zero_le _,h0⟩,?_⟩
 rintro i m σ H ⟨rfl,hi,p⟩
 have q:=hl i σ H hi p
 by_cases hlt:i < xs.length
 ·refine .inr ⟨⟨xs,xs[i],q,by simp [hlt]⟩,Pv (i + 1),fun σ' H' p'=>⟨xs.length - (i + 1),by lia,rfl,hlt,p'⟩,fun x H' y=>?_⟩
  obtain ⟨e,y⟩:=y
  subst e
  exact hs i x σ _ (y xs q) p
 ·have e:i=xs.length:=by lia
  subst e
  exact .inl ⟨⟨xs,q,Nat.le_refl _⟩,hd σ H p⟩
theorem ZJ {lo:Int} {n:Nat} {g:TG} {tb:TS} {D:Ends} {σ:St} {H:Hp} (Pv:Nat→St→Hp→Prop) (h0:Pv 0 σ H)
 (hs:∀ i σ H,i < n→Pv i σ H→g (.int (lo + i)) σ H fun σ2 H2=>tb { D with nx:=Pv (i + 1),ct:=Pv (i + 1),bk:=D.nx } σ2 H2) (hd:∀ σ H,Pv n σ H→D.nx σ H) :
 ∃ W:Nat→Nat→St→Hp→Prop,(∃ m,W 0 m σ H)∧∀ i m σ H,W i m σ H →
  ((Itr lo n).stop i H∧D.nx σ H)∨((Itr lo n).go i H∧∃ N:St→Hp→Prop,(23:)∧∀ x H',(Itr lo n).yld i H x H'→g x σ H' fun σ2 H2=>tb { D with nx:=N,ct:=N,bk:=D.nx } σ2 H2):=by
 refine ⟨fun i m σ H=>m=n - i∧i≤n∧Pv i σ H,⟨n,by simp,Nat.zero_le _,h0⟩,?_⟩
 rintro i m σ H ⟨rfl,hi,p⟩
 by_cases hlt:i < n
 ·refine .inr ⟨hlt,Pv (i + 1),fun σ' H' p'=>⟨n - (i + 1),by lia,rfl,hlt,p'⟩,fun x H' y=>?_⟩
  obtain ⟨e,y⟩:=y
  subst e y
  exact hs i σ _ hlt p
 ·have e:i=n:=by lia
  subst e
  exact .inl ⟨Nat.le_refl _,hd σ H p⟩
end L2
namespace L2
open PySem PySem.Spec PyProof.Rows
abbrev R2:=V→V→Hp→VK→Prop
def OpR (X:Cx) (f:Value→Value→Sem Value) (r:R2):Prop :=
 ∀ (pins:List (9:)) (s:Shared) (σ:St) (H:Hp) (x y:V) (v u:Value) (Q:VK),Inv X pins σ H s→RelV x v→RelV y u→r x y H Q →
  wpAny (6:) X.A (f v u) (EP X pins σ Q) X.xe s
def Zs (X:Cx) (f:Value) (r:List V→Hp→VK→Prop):Prop :=
 ∀ (pins:List (9:)) (s:Shared) (σ:St) (H:Hp) (xs:List V) (us:List Value) (Q:VK),Inv X pins σ H s→Vals xs us→r xs H Q →
  wpAny (6:) X.A (call f us) (EP X pins σ Q) X.xe s
def tOp (r:R2) (ta tb:TE):TE:=fun σ H Q=>ta σ H fun x H1=>tb σ H1 fun y H2=>r x y H2 Q
def rI (C:Int→Int→Prop) (g:Int→Int→V):R2:=fun x y H Q=>∃ i j,x=.int i∧y=.int j∧C i j∧Q (g i j) H
def rI0 (g:Int→Int→V):R2:=fun x y H Q=>∃ i j,x=.int i∧y=.int j∧Q (g i j) H
section
variable {X:Cx} {a b c:Expr} {ta tb tc:TE} {pos:Pos}
theorem Pr (ha:PE X a ta) (hb:PE X b tb) {pins:List (9:)} {s:Shared} {σ:St} {H:Hp} {R:V→V→Hp→Prop} (I:Inv X pins σ H s)
 (h:ta σ H fun x H1=>tb σ H1 fun y H2=>R x y H2) {Q:Value→Shared→Prop} {f:Value→Value→Sem Value}
 (hf:∀ v u s2 x y H2,Inv X pins σ H2 s2→RelV x v→RelV y u→R x y H2→wpAny (6:) X.A (f v u) Q X.xe s2) :
 wpAny (6:) X.A (eval a X.env) (fun v s₁=>wpAny (6:) X.A (eval b X.env) (fun u s₂=>wpAny (6:) X.A (f v u) Q X.xe s₂) X.xe s₁) X.xe s:=by
 refine thn (ha pins s σ H _ I h) fun v s1 ⟨x,H1,I1,r1,q1⟩=>?_
 refine thn (hb pins s1 σ H1 _ I1 q1) fun u s2 ⟨y,H2,I2,r2,q2⟩=>?_
 exact hf v u s2 x y H2 I2 r1 r2 q2
theorem Ql {op:Operator} {r:R2} (ho:OpR X (binaryOp op) r) (ha:PE X a ta) (hb:PE X b tb):PE X (.BinOp a op b pos) (tOp r ta tb):=by
 intro pins s σ H Q I h
 exact wpAny_BinOp (Pr ha hb I h fun v u s2 x y H2 I2 rx ry q=>ho pins s2 σ H2 x y v u Q I2 rx ry q)
theorem opI {f:Value→Value→Sem Value} {C:Int→Int→Prop} {g:Int→Int→Int}
 (rule:∀ (i j:Int) (t u:Tok) (s:Shared) (Q:Value→Shared→Prop) (E:Value→Shared→Prop),C i j→Q (.int (g i j) s.toks) { s with toks:=s.toks + 1 }→wpAny (6:) X.A (f (.int i t) (.int j u)) Q E s) :
 OpR X f (rI C fun i j=>.int (g i j)):=by
 intro pins s σ H x y v u Q I rx ry h
 obtain ⟨i,j,rfl,rfl,hc,q⟩:=h
 obtain ⟨t,rfl⟩:=rx
 obtain ⟨t',rfl⟩:=ry
 exact rule i j t t' s _ _ hc ⟨.int (g i j),H,I.tok _,(54:),q⟩
theorem Rw {f:Value→Value→Sem Value} {g:Int→Int→Int}
 (rule:∀ (i j:Int) (t u:Tok) (s:Shared) (Q:Value→Shared→Prop) (E:Value→Shared→Prop),Q (.int (g i j) s.toks) { s with toks:=s.toks + 1 }→wpAny (6:) X.A (f (.int i t) (.int j u)) Q E s) :
 OpR X f (rI0 fun i j=>.int (g i j)):=by
 intro pins s σ H x y v u Q I rx ry h
 obtain ⟨i,j,rfl,rfl,q⟩:=h
 obtain ⟨t,rfl⟩:=rx
 obtain ⟨t',rfl⟩:=ry
 exact rule i j t t' s _ _ ⟨.int (g i j),H,I.tok _,(54:),q⟩
theorem Px {f:Value→Value→Sem Value} {g:Int→Int→Bool}
 (rule:∀ (i j:Int) (t u:Tok) (s:Shared) (Q:Value→Shared→Prop) (E:Value→Shared→Prop),Q (.bool (g i j)) s→wpAny (6:) X.A (f (.int i t) (.int j u)) Q E s) :
 OpR X f (rI0 fun i j=>.bl (g i j)):=by
 intro pins s σ H x y v u Q I rx ry h
 obtain ⟨i,j,rfl,rfl,q⟩:=h
 obtain ⟨t,rfl⟩:=rx
 obtain ⟨t',rfl⟩:=ry
 exact rule i j t t' s _ _ ⟨.bl (g i j),H,I,rfl,q⟩
def Sf (i j:Int):Prop:=0 < j∧j < 1073741824
def Ss (i j:Int):Prop:=0≤j∧j≤1000000∧i.natAbs < 2 ^ 64
def CMul (i j:Int):Prop:=(-(2 ^ 64) < i∧i < 2 ^ 64)∨(-(2 ^ 64) < j∧j < 2 ^ 64)
theorem CMul.ok {i j:Int} (h:CMul i j):IntMulOk i j:=by
 rcases h with ⟨h1,h2⟩ | ⟨h1,h2⟩
 ·exact .of_left (intBits_le_64 h1 h2)
 ·exact .of_right (intBits_le_64 h1 h2)
theorem QK:OpR X (binaryOp .Add) (rI0 fun i j=>.int (i + j)):=Rw fun _ _ _ _ _ _ _ q=>add_int q
theorem ZR:OpR X (binaryOp .Sub) (rI0 fun i j=>.int (i - j)):=Rw fun _ _ _ _ _ _ _ q=>sub_int q
theorem Z5:OpR X (binaryOp .Mult) (rI CMul fun i j=>.int (i * j)):=opI fun _ _ _ _ _ _ _ hc q=>mul_int q hc.ok
theorem QG:OpR X (binaryOp .FloorDiv) (rI Sf fun i j=>.int (i / j)):=opI fun i j _ _ _ _ _ hc q=>by
 have h1:(0:Int) < j:=hc.1
 have h2:j < 1073741824:=hc.2
 exact floordiv_int (10:) (by rw [Int.fdiv_eq_ediv_of_nonneg i (10:)];exact q) (.inl (PyProof.noPylong_small (10:)))
theorem Qs:OpR X (binaryOp .Mod) (rI (fun _ j=>0 < j) fun i j=>.int (i % j)):=opI fun i j _ _ _ _ _ hc q=>by
 have h1:(0:Int) < j:=hc
 exact mod_int' (10:) (by rw [Int.fmod_eq_emod_of_nonneg i (10:)];exact q)
theorem MO:OpR X (binaryOp .Pow) (rI Ss fun i j=>.int (i ^ j.toNat)):=opI fun _ _ _ _ _ _ _ hc q=>pow_int_small hc.1 hc.2.1 hc.2.2 q
end
def Ri:V→V→Bool
 | .non,.non=>true | .non,.int _=>true | .int _,.non=>true | .non,.bl _=>true | .bl _,.non=>true | .non,.str _=>true | .str _,.non=>true
 | .int _,.int _=>true | .bl _,.bl _=>true | .str _,.str _=>true | .byt _,.byt _=>true
 | .int _,.str _=>true | .str _,.int _=>true | .bl _,.str _=>true | .str _,.bl _=>true
 | _,_=>false
def rEq:R2:=fun x y H Q=>Ri x y=true∧Q (.bl (decide (x=y))) H
def rNe:R2:=fun x y H Q=>Ri x y=true∧Q (.bl (!decide (x=y))) H
theorem VH {i j:Int}:decide (V.int i=V.int j)=(i == j):=by
 rw [Bool.eq_iff_iff]
 simp
theorem MU {i j:Bool}:decide (V.bl i=V.bl j)=(i == j):=by
 rw [Bool.eq_iff_iff]
 simp
theorem Vr {i j:Str}:decide (V.str i=V.str j)=(i == j):=by
 rw [Bool.eq_iff_iff]
 simp
theorem Vv {i j:Array UInt8}:decide (V.byt i=V.byt j)=(i.toList == j.toList):=by
 rw [Bool.eq_iff_iff]
 cases i
 cases j
 simp
section
variable {X:Cx} {a b c:Expr} {ta tb tc:TE} {pos:Pos}
theorem QE {pins:List (9:)} {σ:St} {H:Hp} {s:Shared} {Q:VK} {k k':Bool} (I:Inv X pins σ H s) (q:Q (.bl k) H) (e:k=k'):EP X pins σ Q (.bool k') s:=by
 subst e
 exact ⟨.bl k,H,I,rfl,q⟩
theorem Zc:OpR X (compareOp .Eq) rEq:=by
 intro pins s σ H x y v u Q I rx ry h
 obtain ⟨hs,q⟩:=h
 cases x with
 | non =>
  cases rx
  cases y with
  | non=>cases ry;exact PySem.EqNone.eq_none_none (QE I q (24:))
  | bl j=>cases ry;exact PySem.EqNone.eq_none_bool (QE I q (24:))
  | int j=>obtain ⟨t',rfl⟩:=ry;exact PySem.EqNone.eq_none_int (QE I q (24:))
  | str j=>obtain ⟨t',rfl⟩:=ry;exact PySem.EqNone.eq_none_str (QE I q (24:))
  | _=>exact absurd (show false=true from hs) Bool.false_ne_true
 | bl i =>
  cases rx
  cases y with
  | non=>cases ry;exact PySem.EqNone.eq_bool_none (QE I q (24:))
  | bl j=>cases ry;exact eq_bool (QE I q MU)
  | str j=>obtain ⟨t',rfl⟩:=ry;exact PySem.EqMixed.eq_bool_str (QE I q (24:))
  | _=>exact absurd (show false=true from hs) Bool.false_ne_true
 | int i =>
  obtain ⟨t,rfl⟩:=rx
  cases y with
  | non=>cases ry;exact PySem.EqNone.eq_int_none (QE I q (24:))
  | int j=>obtain ⟨t',rfl⟩:=ry;exact eq_int (QE I q VH)
  | str j=>obtain ⟨t',rfl⟩:=ry;exact PySem.EqMixed.eq_int_str (QE I q (24:))
  | _=>exact absurd (show false=true from hs) Bool.false_ne_true
 | str i =>
  obtain ⟨t,rfl⟩:=rx
  cases y with
  | non=>cases ry;exact PySem.EqNone.eq_str_none (QE I q (24:))
  | bl j=>cases ry;exact PySem.EqMixed.eq_str_bool (QE I q (24:))
  | int j=>obtain ⟨t',rfl⟩:=ry;exact PySem.EqMixed.eq_str_int (QE I q (24:))
  | str j=>obtain ⟨t',rfl⟩:=ry;exact eq_str (QE I q Vr)
  | _=>exact absurd (show false=true from hs) Bool.false_ne_true
 | byt i =>
  obtain ⟨t,rfl⟩:=rx
  cases y with
  | byt j=>obtain ⟨t',rfl⟩:=ry;exact PySem.W.eq_bytes (QE I q Vv)
  | _=>exact absurd (show false=true from hs) Bool.false_ne_true
 | _=>cases y <;> exact absurd (show false=true from hs) Bool.false_ne_true
theorem Os:OpR X (compareOp .NotEq) rNe:=by
 intro pins s σ H x y v u Q I rx ry h
 obtain ⟨hs,q⟩:=h
 cases x with
 | non =>
  cases rx
  cases y with
  | non=>cases ry;exact PySem.EqNone.ne_none_none (QE I q (24:))
  | bl j=>cases ry;exact PySem.EqNone.ne_none_bool (QE I q (24:))
  | int j=>obtain ⟨t',rfl⟩:=ry;exact PySem.EqNone.ne_none_int (QE I q (24:))
  | str j=>obtain ⟨t',rfl⟩:=ry;exact PySem.EqNone.ne_none_str (QE I q (24:))
  | _=>exact absurd (show false=true from hs) Bool.false_ne_true
 | bl i =>
  cases rx
  cases y with
  | non=>cases ry;exact PySem.EqNone.ne_bool_none (QE I q (24:))
  | bl j=>cases ry;exact ne_bool (QE I q (congrArg not MU))
  | str j=>obtain ⟨t',rfl⟩:=ry;exact PySem.EqMixed.ne_bool_str (QE I q (24:))
  | _=>exact absurd (show false=true from hs) Bool.false_ne_true
 | int i =>
  obtain ⟨t,rfl⟩:=rx
  cases y with
  | non=>cases ry;exact PySem.EqNone.ne_int_none (QE I q (24:))
  | int j=>obtain ⟨t',rfl⟩:=ry;exact ne_int (QE I q (congrArg not VH))
  | str j=>obtain ⟨t',rfl⟩:=ry;exact PySem.EqMixed.ne_int_str (QE I q (24:))
  | _=>exact absurd (show false=true from hs) Bool.false_ne_true
 | str i =>
  obtain ⟨t,rfl⟩:=rx
  cases y with
  | non=>cases ry;exact PySem.EqNone.ne_str_none (QE I q (24:))
  | bl j=>cases ry;exact PySem.EqMixed.ne_str_bool (QE I q (24:))
  | int j=>obtain ⟨t',rfl⟩:=ry;exact PySem.EqMixed.ne_str_int (QE I q (24:))
  | str j=>obtain ⟨t',rfl⟩:=ry;exact ne_str (QE I q (congrArg not Vr))
  | _=>exact absurd (show false=true from hs) Bool.false_ne_true
 | byt i =>
  obtain ⟨t,rfl⟩:=rx
  cases y with
  | byt j=>obtain ⟨t',rfl⟩:=ry;exact PySem.W.ne_bytes (QE I q (congrArg not Vv))
  | _=>exact absurd (show false=true from hs) Bool.false_ne_true
 | _=>cases y <;> exact absurd (show false=true from hs) Bool.false_ne_true
theorem Vy:OpR X (compareOp .Lt) (rI0 fun i j=>.bl (decide (i < j))):=Px fun _ _ _ _ _ _ _ q=>lt_int q
theorem P2:OpR X (compareOp .LtE) (rI0 fun i j=>.bl (decide (i≤j))):=Px fun _ _ _ _ _ _ _ q=>le_int q
theorem VF:OpR X (compareOp .Gt) (rI0 fun i j=>.bl (decide (j < i))):=Px fun _ _ _ _ _ _ _ q=>gt_int q
theorem PB:OpR X (compareOp .Is) (fun x y H Q=>y=.non∧Q (.bl (decide (x=.non))) H):=by
 intro pins s σ H x y v u Q I rx ry h
 obtain ⟨rfl,q⟩:=h
 cases ry
 refine is_none_gen (QE I q ?_)
 cases x <;> first
  | (cases rx;rfl)
  | (obtain ⟨t,rfl⟩:=rx;rfl)
theorem QA (b:Expr) {op:CmpOp} (h:op≠.In:=by decide) (h2:op≠.NotIn:=by decide):behindInMarks op b=false:=by
 have e1:(op == CmpOp.In)=false:=by cases op <;> first | rfl | exact absurd rfl h
 have e2:(op == CmpOp.NotIn)=false:=by cases op <;> first | rfl | exact absurd rfl h2
 cases b <;> simp [behindInMarks,e1,e2]
theorem Yk {op:CmpOp} {r:R2} (ho:OpR X (compareOp op) r) (ha:PE X a ta) (hb:PE X b tb) (hm:behindInMarks op b=false):PE X (.Compare a [op] [b] pos) (tOp r ta tb):=by
 intro pins s σ H Q I h
 exact wpAny_Compare1 (Pr ha hb I h fun v u s2 x y H2 I2 rx ry q=>ho pins s2 σ H2 x y v u Q I2 rx ry q) hm
def Rt (t:TE):TT:=fun σ H Q=>t σ H fun x H'=>∃ k,x=.bl k∧Q k H'
theorem Qw {op:CmpOp} {r:R2} (ho:OpR X (compareOp op) r) (ha:PE X a ta) (hb:PE X b tb) (hm:behindInMarks op b=false):PT X (.Compare a [op] [b] pos) (Rt (tOp r ta tb)):=by
 intro pins s σ H Q I h
 refine wpAny_isTrue_Compare1 (thn (ha pins s σ H _ I h) fun v s1 ⟨x,H1,I1,r1,q1⟩=>thn (hb pins s1 σ H1 _ I1 q1) fun u s2 ⟨y,H2,I2,r2,q2⟩ =>
  thn (ho pins s2 σ H2 x y v u _ I2 r1 r2 q2) fun c s3 ⟨z,H3,I3,r3,k,e,q3⟩=>?_) hm
 subst e
 cases r3
 exact wpAny_truthy_bool ⟨H3,I3,q3⟩
def Pf (r r':R2) (ta tb tc:TE):TE:=fun σ H Q=>ta σ H fun x H1=>tb σ H1 fun y H2=>r x y H2 fun z H3=>∃ k,z=.bl k ∧
 (if k=true then tc σ H3 fun w' H4=>r' y w' H4 Q else Q (.bl false) H3)
theorem LQ {op op':CmpOp} {r r':R2} (ho:OpR X (compareOp op) r) (ho':OpR X (compareOp op') r') (ha:PE X a ta) (hb:PE X b tb) (hc:PE X c tc)
 (hm:lastMarks [op,op'] [b,c]=false:=by with_unfolding_all rfl):PE X (.Compare a [op,op'] [b,c] pos) (Pf r r' ta tb tc):=by
 intro pins s σ H Q I h
 refine Compare_chain (thn (ha pins s σ H _ I h) fun v s1 ⟨x,H1,I1,r1,q1⟩=>chain_link (thn (hb pins s1 σ H1 _ I1 q1) fun u s2 ⟨y,H2,I2,r2,q2⟩ =>
  thn (ho pins s2 σ H2 x y v u _ I2 r1 r2 q2) fun d s3 ⟨z,H3,I3,r3,k,e,q3⟩=>?_)) hm
 subst e
 cases r3
 refine wpAny_truthy_bool ?_
 cases k with
 | false=>exact ite_ff ⟨.bl false,H3,I3,rfl,q3⟩
 | true=>exact ite_tt (chain_last (thn (hc pins s3 σ H3 _ I3 q3) fun w' s4 ⟨z',H4,I4,r4,q4⟩=>ho' pins s4 σ H4 y z' u w' Q I4 r2 r4 q4))
theorem Jk:(sizeLine:Nat) < 2 ^ 63:=by rw [sizeLine_eq];decide
theorem X2 {x:V} {us:List Value} (r:Vals [x] us):∃ u,us=[u]∧RelV x u:=by
 cases r with
 | cons r1 r2=>cases r2;exact ⟨_,rfl,r1⟩
theorem LJ {x y:V} {us:List Value} (r:Vals [x,y] us):∃ u w',us=[u,w']∧RelV x u∧RelV y w':=by
 cases r with
 | cons r1 r2 =>
  cases r2 with
  | cons r3 r4=>cases r4;exact ⟨_,_,rfl,r1,r3⟩
theorem V9:Zs X (.type "int") (fun xs H Q=>(∃ i,xs=[.int i]∧Q (.int i) H)∨∃ k,xs=[.bl k]∧Q (.int (if k then 1 else 0)) H):=by
 intro pins s σ H xs us Q I r h
 rcases h with ⟨i,rfl,q⟩ | ⟨k,rfl,q⟩
 ·obtain ⟨u,rfl,t,rfl⟩:=X2 r
  exact call_int_int ⟨.int i,H,I,(54:),q⟩
 ·obtain ⟨u,rfl,r1⟩:=X2 r
  cases r1
  exact call_int_bool ⟨.int (if k then 1 else 0),H,I.tok _,(54:),q⟩
end
end L2
namespace L2
open PySem PySem.Spec PyProof.Rows
structure ObjM (h:Heap) (x dx C:Addr) (mA:Str→Option Value):Prop where
 obj:h.get? x=some (PySem.W.instObj C dx)
 ns:h.Ns1 dx mA
 ne:dx≠x
theorem V3 {h:Heap} {dx:Addr} {mA:Str→Option Value} (n:h.Ns1 dx mA):∃ od,h.get? dx=some od∧∀ name,PySem.W.lookIn name od=some (mA name):=by
 obtain ⟨o,es,ep,ho,hd,hk,_,hm⟩:=n
 refine ⟨o,ho,fun name=>?_⟩
 have e:=hm name
 unfold nsFind findBy at e
 rw [← Array.find?_toList] at e
 unfold PySem.W.lookIn
 rw [hd]
 dsimp only
 split
 ·rename_i y q
  rw [q] at e
  exact congrArg some e
 ·rename_i q
  rw [q] at e
  have a:es.toList.any (·.refKey)=false:=by
   rw [List.any_eq_false]
   intro y hy
   obtain ⟨z,t,hkey⟩:=hk y (Array.mem_toList_iff.mp hy)
   simp [DictEntry.refKey,hkey]
  have a':¬ es.toList.any (·.refKey)=true:=by rw [a];exact Bool.false_ne_true
  rw [if_neg a']
  exact congrArg some e
theorem ObjM.look {h:Heap} {x dx C:Addr} {mA:Str→Option Value} (I:ObjM h x dx C mA):∃ od,PySem.W.InstAt h x (PySem.W.instObj C dx) C (some od)∧∀ name,PySem.W.lookIn name od=some (mA name) :=
 let ⟨od,ho,hl⟩:=V3 I.ns
 ⟨od,⟨I.obj,rfl,rfl,ho⟩,hl⟩
section
variable {prog:Program} {w:World} {A:Around} {E:Value→Shared→Prop} {s:Shared} {K:PySem.W.Frag} {x dx C f:Addr} {mA:Str→Option Value} {name:Str} {v:Value}
end
theorem RelO.some_of {v:V} {o:Option Value} (r:RelO (some v) o):∃ u,o=some u∧RelV v u:=by
 cases o with
 | none=>exact (show False from r).elim
 | some u=>exact ⟨u,rfl,r⟩
section
variable {P:Program} {w:World} {H H':Hp} {h h':Heap} {a C dx:Addr} {fs fs':List (Str × V)}
theorem NH (hok:HOk P w H h) (e:H a=some (.ins C dx fs)):∃ mA,ObjM h a dx C mA∧(∀ f,RelO (fs.lookup f) (mA f))∧PySem.Within mA (fs.map (·.1))∧fs.length≤1000∧H dx=some (.own a):=by
 obtain ⟨d,z,ne,ob,mA,n,r,q⟩:=(show ObjOk P w H h a (.ins C dx fs) from hok a _ e)
 exact ⟨mA,⟨ob,n,ne⟩,r,q,z,d⟩
end
structure Cls (K:PySem.W.Frag) (C:Addr):Prop where
 pg:PySem.W.plainGet K C Str.empty=true
 hd:PySem.W.hasDictIn K C=true
 po:PySem.W.plainOver K C=true
 sa:PySem.W.findIn K (.ref C) "__setattr__" = some (some (.builtin "object.__setattr__"))
theorem Cls.get {K:PySem.W.Frag} {C:Addr} (c:Cls K C) (f:Str):PySem.W.plainGet K C f=true:=c.pg
section
variable {X:Cx} {pins:List (9:)} {σ:St} {H:Hp} {s:Shared} {a C dx:Addr} {fs:List (Str × V)} {f:Str} {v:V} {A:Around} {E:Value→Shared→Prop}
end
section
variable {X:Cx} {o e value:Expr} {f:Str} {pos pos' tpos:Pos} {ta tv:TE}
end
section
variable {X:Cx} {pins:List (9:)} {σ:St} {H:Hp} {s:Shared} {A:Around} {E:Value→Shared→Prop} {Q:Value→Shared→Prop} {c:Value} {b:Bool}
inductive TyOf (K:PySem.W.Frag) (H:Hp):V→Value→Prop where
 | non:TyOf K H .non (.type "NoneType")
 | bl (x:Bool):TyOf K H (.bl x) (.type "bool")
 | int (i:Int):TyOf K H (.int i) (.type "int")
 | str (x:Str):TyOf K H (.str x) (.type "str")
 | flt (x:UInt64):TyOf K H (.flt x) (.type "float")
 | lst {a:Addr} {xs:List V} (e:H a=some (.lst xs)):TyOf K H (.ref a) (.type "list")
 | frz {a:Addr} {o:Obj} {xs:List V} (e:H a=some (.frz o (.lst xs))):TyOf K H (.ref a) (.type "list")
 | tup {a:Addr} {xs:List V} (e:H a=some (.tup xs)):TyOf K H (.ref a) (.type "tuple")
 | dK {a:Addr} {kvs:List (Key × V)} (e:H a=some (.dK kvs)):TyOf K H (.ref a) (.type "dict")
 | dT {a:Addr} {kvs:List (List Key × V)} (e:H a=some (.dT kvs)):TyOf K H (.ref a) (.type "dict")
 | ins {a C dx:Addr} {fs:List (Str × V)} (e:H a=some (.ins C dx fs)) (cl:Cls K C) (ha:PySem.W.findIn K (.ref C) "__class__" = some (some (.builtin "object.__class__")))
  (hn:PySem.W.specialIn K (.builtin "object.__class__") "__get__" = some (some (.builtin "getset_descriptor.__get__"))) (htk:PySem.W.takesIn K (.builtin "object.__class__")=some true)
  (hm:PySem.W.mroIn K C (.type "object")=some true):TyOf K H (.ref a) (.ref C)
theorem Gj {x:V} {u t:Value} (I:Inv X pins σ H s) (rx:RelV x u) (ty:TyOf X.K H x t) (e:PySem.W.kitOne X.K t c=some b) (h:∀ tk,Q (.bool b) { s with toks:=tk }) :
 wpAny (6:) A (call (.builtin "isinstance") [u,c]) Q E s:=by
 cases ty with
 | non=>cases (show u=Value.none from rx);exact PySem.W.kia_one PySem.W.kitx_none I.kIn True.intro e (fun z=>nomatch z) h
 | bl y=>cases (show u=Value.bool y from rx);exact PySem.W.kia_one PySem.W.kitx_bool I.kIn True.intro e (fun z=>nomatch z) h
 | int i=>obtain ⟨t,q⟩:=(show ∃ t,u=Value.int i t from rx);cases q;exact PySem.W.kia_one PySem.W.kitx_int I.kIn True.intro e (fun z=>nomatch z) h
 | str y=>obtain ⟨t,q⟩:=(show ∃ t,u=Value.str y t from rx);cases q;exact PySem.W.kia_one PySem.W.kitx_str I.kIn True.intro e (fun z=>nomatch z) h
 | flt y=>obtain ⟨t,q⟩:=(show ∃ t,u=Value.float y t from rx);cases q;exact PySem.W.kia_one PySem.W.kitx_float I.kIn True.intro e (fun z=>nomatch z) h
 | @lst a xs ea =>
  cases (show u=Value.ref a from rx)
  obtain ⟨_,_,n,_,h1⟩:=(show ObjOk X.prog X.w H s.heap a (.lst xs) from I.hok a _ ea)
  exact PySem.W.kia_one PySem.W.kitx_list I.kIn ⟨_,h1,rfl⟩ e (43:) h
 | @frz a ob xs ea =>
  cases (show u=Value.ref a from rx)
  obtain ⟨_,_,_,n,_,h1⟩:=(show ObjOk X.prog X.w H s.heap a (.frz ob (.lst xs)) from I.hok a _ ea)
  exact PySem.W.kia_one PySem.W.kitx_list I.kIn ⟨_,h1,rfl⟩ e (43:) h
 | @tup a xs ea =>
  cases (show u=Value.ref a from rx)
  obtain ⟨_,_,_,p⟩:=(show ObjOk X.prog X.w H s.heap a (.tup xs) from I.hok a _ ea)
  obtain ⟨o,h1,h2,_⟩:=p
  exact PySem.W.kia_one PySem.W.kitx_tuple I.kIn ⟨o,h1,h2⟩ e (43:) h
 | @dK a kvs ea =>
  cases (show u=Value.ref a from rx)
  obtain ⟨_,_,vs,_,p⟩:=(show ObjOk X.prog X.w H s.heap a (.dK kvs) from I.hok a _ ea)
  obtain ⟨o,es,ep,h1,h2,_⟩:=p
  exact PySem.W.kia_one PySem.W.kitx_dict I.kIn ⟨o,h1,h2.1⟩ e (43:) h
 | @dT a kvs ea =>
  cases (show u=Value.ref a from rx)
  obtain ⟨_,_,xs,_,o,es,ep,h1,h2,_⟩:=(show ObjOk X.prog X.w H s.heap a (.dT kvs) from I.hok a _ ea)
  exact PySem.W.kia_one PySem.W.kitx_dict I.kIn ⟨o,h1,h2.1⟩ e (43:) h
 | @ins a C dx fs ea cl ha hn htk hm =>
  cases (show u=Value.ref a from rx)
  obtain ⟨mA,O,_⟩:=NH I.hok ea
  obtain ⟨od,J,_⟩:=O.look
  exact PySem.W.kia_one (PySem.W.kitx_own (cl.get _) cl.hd ha hn htk hm) I.kIn J e (43:) h
end
end L2
namespace L2
open PySem PySem.Spec PyProof.Rows
structure Room (k:Nat) (A:Around):Prop where
 hd:A.handled=none
 dp:A.depth + 3 * k + 5 < recursionLimit
 un:A.units + 16 * k + 200 < cLine
theorem Room.mono {j k:Nat} {A:Around} (r:Room k A) (h:j≤k):Room j A:=⟨r.hd,by have:=r.dp;lia,by have:=r.un;lia⟩
theorem Room.deeper {k:Nat} {A:Around} (r:Room (k + 1) A) (env:Env):Room k (A.deeper env) :=
 ⟨r.hd,by have:=r.dp;show A.depth + 1 + 3 * k + 5 < _;lia,by have:=r.un;show A.units + 3 + 16 * k + 200 < _;lia⟩
theorem Room.depth {k:Nat} {A:Around} (r:Room k A):A.depth < recursionLimit:=by have:=r.dp;lia
theorem Room.units {k:Nat} {A:Around} (r:Room k A):A.units + 64 < cLine:=by have:=r.un;lia
def Jf:TA:=fun _ H Q=>Q [] H
def Q0 (ta:TE) (tr:TA):TA:=fun σ H Q=>ta σ H fun x H1=>tr σ H1 fun xs H2=>Q (x :: xs) H2
section
variable {X:Cx} {e:Expr} {es:List Expr} {te:TE} {t:TA} {pos:Pos}
theorem Qc:PA X [] Jf:=fun _ _ _ _ H Q I h=>Calls.spliced_nil ⟨[],H,I,.nil,h⟩
theorem Qa (ha:PE X e te) (hr:PA X es t) (hs:starEach (e :: es) X.env=(false,eval e X.env) :: starEach es X.env:=by rfl):PA X (e :: es) (Q0 te t):=by
 intro pos pins s σ H Q I h
 rw [hs]
 show wpAny _ _ (spliced ((false,eval e X.env) :: backTo pos (starEach es X.env))) _ _ s
 refine Calls.spliced_cons (thn (ha pins s σ H _ I h) fun u s1 ⟨x,H1,I1,r1,q1⟩=>?_)
 exact thn (hr pos pins s1 σ H1 _ I1 q1) fun us s2 ⟨xs,H2,I2,r2,q2⟩=>⟨x :: xs,H2,I2,.cons r1 r2,q2⟩
def MW (t:TA):TE:=fun σ H Q=>t σ H fun xs H1=>xs.length≤sizeLine∧∀ p,H1 p=none→Q (.ref p) (upd H1 p (.tup xs))
def Sc (t:TA):TE:=fun σ H Q=>t σ H fun xs H1=>xs.length≤sizeLine∧∀ p,H1 p=none→Q (.ref p) (upd H1 p (.lst xs))
theorem Qz {x1} (h:PA X es t):PE X (.Tuple es x1 pos) (MW t):=by
 intro pins s σ H Q I hq
 refine wpAny_Tuple_spliced (thn (h pos pins s σ H _ I hq) fun us s1 ⟨xs,H1,I1,r,z,q⟩=>⟨by rw [← r.length];exact z,?_⟩)
 have hf:H1 s1.heap.objs.size=none:=I1.hok.fresh (7:)
 refine ⟨.ref s1.heap.objs.size,upd H1 s1.heap.objs.size (.tup xs),I1.laid (t':=s1.toks) (fun b u e=>Heap.get?_push_of_some _ e) (7:) ?_,rfl,q _ hf⟩
 exact ⟨z,us,r,⟨_,Heap.get?_push_size _ rfl,rfl,_,rfl⟩⟩
theorem QF (h:PA X es t):PE X (.List es pos) (Sc t):=by
 intro pins s σ H Q I hq
 refine wpAny_List_spliced (thn (h pos pins s σ H _ I hq) fun us s1 ⟨xs,H1,I1,r,z,q⟩=>⟨by rw [← r.length];exact z,?_⟩)
 have hf:H1 s1.heap.objs.size=none:=I1.hok.fresh (7:)
 refine ⟨.ref s1.heap.objs.size,upd H1 s1.heap.objs.size (.lst xs),I1.laid (t':=s1.toks) (fun b u e=>Heap.get?_push_of_some _ e) (7:) ?_,rfl,q _ hf⟩
 exact ⟨z,us,0,r,Heap.get?_push_size _ rfl⟩
end
abbrev Sp:=List V→Hp→VK→XK→Prop
abbrev CXT:=List Env→Hp→Shared→XK→Value→Shared→Prop
structure Env0 (P:Program) (w:World) (K:PySem.W.Frag) (mg:Str→Option Value) (base:Heap) (A:Around) (outer:List Env) (s:Shared) (H:Hp):Prop where
 frames:A.frames=some outer
 mod:Mod K mg base
 bs:∀ b o,base.get? b=some o→s.heap.get? b=some o∧H b=none
 bsz:base.objs.size≤s.heap.objs.size
 funs:s.heap.FunFrames base outer
 frf:∀ b ∈ frs outer,H b=none
 hok:HOk P w H s.heap
 bare:AllBare s.gens
def CE (outer:List Env) (P:Program) (w:World) (H:Hp) (s:Shared) (Q:VK) (u:Value) (s':Shared):Prop :=
 ∃ v H',s'.os=s.os∧AllBare s'.gens∧Un (frs outer) [] H H' s.heap s'.heap∧HOk P w H' s'.heap∧RelV v u∧Q v H'
def CR (CX:CXT) (outer:List Env) (P:Program) (w:World) (H:Hp) (s:Shared) (Q:VK) (E:XK) (r:Result) (s':Shared):Prop :=
 match r with
 | .ok (.ret u)=>CE outer P w H s Q u s'
 | .ok _=>False
 | .error e=>CX outer H s E e s'
structure FnOk (P:Program) (w:World) (K:PySem.W.Frag) (mg:Str→Option Value) (base:Heap) (CX:CXT) (k:Nat) (f:Addr) (fd:FuncData) (ps:List Str) (sp:Sp):Prop where
 len:∀ vs H Q E,sp vs H Q E→vs.length=ps.length
 run:∀ (A:Around) (outer:List Env) (s:Shared) (H:Hp) (args:Args) (us:List Value) (vs:List V) (Q:VK) (E:XK),Room k A→Env0 P w K mg base A outer s H→BindsTo s fd args (ps.zip us)→Vals vs us→sp vs H Q E →
  codeAny (model P w) A (.call (.ref f) args) (CR CX outer P w H s Q E) s
section
variable {X:Cx} {pins:List (9:)} {σ:St} {H:Hp} {s s':Shared}
theorem Inv.env0 (I:Inv X pins σ H s):Env0 X.prog X.w X.K X.mg X.base X.A X.stack s H :=
 ⟨I.ok.frames,I.ok.mod,I.bs,Nat.le_trans I.ok.bsz I.sz,I.stack,I.stkFree,I.hok,I.bare⟩
theorem Inv.after {Q:VK} {u:Value} (I:Inv X pins σ H s) (h:CE X.stack X.prog X.w H s Q u s'):EP X pins σ Q u s':=by
 obtain ⟨v,H',os,bare,un,hok,r,q⟩:=h
 obtain ⟨hh,g,d,t,os'⟩:=s'
 obtain rfl:os'=s.os:=os
 exact ⟨v,H',I.call (h':=hh) (g':=g) (d':=d) (t':=t) (ch:=[]) un hok bare (fun b z=>absurd z (24:)),r,q⟩
end
def Wj (sp:Sp) (dvs:List V) (E:XK) (t:TA):TE:=fun σ H Q=>t σ H fun vs H1=>sp (vs ++ dvs) H1 Q E
def Binds (K:PySem.W.Frag) (fd:FuncData) (ps:List Str) (ds:List Value):Prop :=
 ∀ (s:Shared) (us:List Value),K.In s.heap→(us ++ ds).length=ps.length→BindsTo s fd ⟨us,[]⟩ (ps.zip (us ++ ds))
theorem Binds.all {K:PySem.W.Frag} {fd:FuncData} {ps:List Str} (h:∀ us:List Value,us.length=ps.length→bindArgs fd ⟨us,[]⟩=pure (ps.zip us)):Binds K fd ps []:=fun s us _ hl=>by
 rw [List.append_nil] at hl ⊢
 exact .of_eq (h us hl)
def XC (CX:CXT) (X:Cx) (E:XK):Prop:=∀ (pins:List (9:)) (σ:St) (H:Hp) (s:Shared) (e:Value) (s':Shared),Inv X pins σ H s→CX X.stack H s E e s'→X.xe e s'
section
variable {X:Cx} {CX:CXT} {k:Nat} {f C:Addr} {fd:FuncData} {ps:List Str} {sp:Sp} {dvs:List V} {ds:List Value} {E:XK} {x m:Str} {p pos apos:Pos} {e o:Expr} {es:List Expr} {ta:TE} {t:TA}
theorem Pd {pins:List (9:)} {σ:St} {H:Hp} {s:Shared} {Q:VK} {us:List Value} {vs:List V} (F:FnOk X.prog X.w X.K X.mg X.base CX k f fd ps sp) (hr:Room k X.A) (hb:Binds X.K fd ps ds) (hd:Vals dvs ds) (hx:XC CX X E)
 (I:Inv X pins σ H s) (r:Vals vs us) (h:sp (vs ++ dvs) H Q E):wpAny (6:) X.A (call (.ref f) us) (EP X pins σ Q) X.xe s:=by
 have r2:Vals (vs ++ dvs) (us ++ ds):=r.append hd
 have hl:(us ++ ds).length=ps.length:=by rw [← r2.length];exact F.len _ _ _ _ h
 refine wpAny_call (codeAny_mono (F.run X.A X.stack s H ⟨us,[]⟩ (us ++ ds) (vs ++ dvs) Q E hr I.env0 (hb s us I.kIn hl) r2 h) fun r s' hq=>?_)
 cases r with
 | error e=>exact hx pins σ H s e s' I hq
 | ok fl =>
  cases fl with
  | ret u=>exact I.after hq
  | next=>exact False.elim hq
  | brk=>exact False.elim hq
  | cont=>exact False.elim hq
theorem Ni (F:FnOk X.prog X.w X.K X.mg X.base CX k f fd ps sp) (hr:Room k X.A) (hg:Gl X x) (hm:X.mg x=some (.ref f)) (hk:PySem.W.keepIn X.K (.ref f)=true) (hb:Binds X.K fd ps ds) (hd:Vals dvs ds) (hx:XC CX X E)
 (ha:PA X (e :: es) t) (hdb:(41:)=false:=by decide) (he:starEach (e :: es) X.env=(false,eval e X.env) :: starEach es X.env:=by rfl) (hpl:(backTo pos (starEach es X.env)).any (·.1)=false:=by rfl) :
 PE X (.Call (.Name x p) (e :: es) [] pos) (Wj sp dvs E t):=by
 intro pins s σ H Q I h
 refine wpAny_Call_Name_kw (ZT I hg hm ?_ hdb)
 refine PySem.W.callWith_K (h₀:=X.base) I.ok.mod.kin hk (thn (ha pos pins s σ H _ I h) fun us s1 ⟨vs,H1,I1,r,q⟩=>⟨I1.kIn,?_⟩) he hpl
 exact Pd F hr hb hd hx I1 r q
end
def PK (X:Cx) (kws:List Keyword) (t:TA):Prop :=
 ∀ (pos:Pos) (pins:List (9:)) (s:Shared) (σ:St) (H:Hp) (Q:List V→Hp→Prop),Inv X pins σ H s→t σ H Q→wpAny (6:) X.A (evalAll ((backToKw pos (keywordEach kws X.env)).map (·.2))) (AP X pins σ Q) X.xe s
section
variable {X:Cx} {CX:CXT} {k:Nat} {f C:Addr} {fd:FuncData} {ps ks:List Str} {sp:Sp} {E:XK} {x m:Str} {p pos apos kpos:Pos} {e o:Expr} {es:List Expr} {kws:List Keyword} {te ta:TE} {t tk:TA} {nm:Option Str}
theorem PR:PK X [] Jf:=fun _ _ _ _ H Q I h=>wpAny_evalAll_nil ⟨[],H,I,.nil,h⟩
theorem Nn (ha:PE X e te) (hr:PK X kws t):PK X (⟨nm,e,kpos⟩ :: kws) (Q0 te t):=by
 intro pos pins s σ H Q I h
 show wpAny _ _ (evalAll ((do let v ← eval e X.env;standAt pos;pure v) :: (backToKw pos (keywordEach kws X.env)).map (·.2))) _ _ s
 refine wpAny_evalAll_cons (wpAny_bind (thn (ha pins s σ H _ I h) fun u s1 ⟨x,H1,I1,r1,q1⟩=>wpAny_bind (wpAny_standAt (wpAny_pure ?_))))
 exact thn (hr pos pins s1 σ H1 _ I1 q1) fun us s2 ⟨xs,H2,I2,r2,q2⟩=>⟨x :: xs,H2,I2,.cons r1 r2,q2⟩
variable {g:List Value→List Value→List Value} {gV:List V→List V→List V}
end
structure FnScope (N P:List Str) (sc:Scope):Prop where
 kind:sc.kind=.function
 co:sc.isCoroutine=false
 gen:sc.isGenerator=false
 nd:N.Nodup
 pre:N.take P.length=P
 par:∀ x ∈ P,sc.names.lookup x=some .local∨sc.names.lookup x=some .cell
 nofree:∀ y ∈ sc.names,y.2≠.free
theorem JT {kindOf:Str→Option NameKind} {x:Str}:∀ {binds:List (Str × Value)} {m:Str→Option Value},(∀ v,(x,v) ∉ binds)→bindL kindOf binds m x=m x
 | [],_,_=>rfl
 | (n,v) :: r,m,h=>by
  unfold bindL
  rw [JT fun w hw=>h w (List.mem_cons_of_mem _ hw)]
  split
  ·have:x≠n:=by rintro rfl;exact h v List.mem_cons_self
   simp [this]
  ·rfl
theorem JV {kindOf:Str→Option NameKind} {x:Str}:∀ {binds:List (Str × Value)} {m:Str→Option Value},(∀ v,(x,v) ∉ binds)→bindC kindOf binds m x=m x
 | [],_,_=>rfl
 | (n,v) :: r,m,h=>by
  unfold bindC
  rw [JV fun w hw=>h w (List.mem_cons_of_mem _ hw)]
  split
  ·rfl
  ·have:x≠n:=by rintro rfl;exact h v List.mem_cons_self
   simp [this]
theorem JB {kindOf:Str→Option NameKind} {x:Str} {v:Value}:∀ {P:List Str} {vs:List Value} {i:Nat} {m:Str→Option Value},P.Nodup→P[i]?=some x→vs[i]?=some v→kindOf x=some .local →
 bindL kindOf (P.zip vs) m x=some v
 | [],_,_,_,_,h,_,_=>by simp at h
 | _ :: _,[],_,_,_,_,h,_=>by simp at h
 | p :: P,w :: vs,0,m,nd,h1,h2,hk=>by
  simp at h1 h2;subst h1;subst h2
  show bindL kindOf ((p,w) :: P.zip vs) m p=_
  unfold bindL
  rw [JT fun v hv=>(List.nodup_cons.mp nd).1 (List.of_mem_zip hv).1,if_pos hk]
  simp
 | p :: P,w :: vs,i + 1,m,nd,h1,h2,hk=>by
  show bindL kindOf ((p,w) :: P.zip vs) m x=_
  unfold bindL
  exact JB (i:=i) (List.nodup_cons.mp nd).2 (by simpa using h1) (by simpa using h2) hk
theorem JZ {kindOf:Str→Option NameKind} {x:Str} {v:Value}:∀ {P:List Str} {vs:List Value} {i:Nat} {m:Str→Option Value},P.Nodup→P[i]?=some x→vs[i]?=some v→kindOf x≠some .local →
 bindC kindOf (P.zip vs) m x=some v
 | [],_,_,_,_,h,_,_=>by simp at h
 | _ :: _,[],_,_,_,_,h,_=>by simp at h
 | p :: P,w :: vs,0,m,nd,h1,h2,hk=>by
  simp at h1 h2;subst h1;subst h2
  show bindC kindOf ((p,w) :: P.zip vs) m p=_
  unfold bindC
  rw [JV fun v hv=>(List.nodup_cons.mp nd).1 (List.of_mem_zip hv).1,if_neg hk]
  simp
 | p :: P,w :: vs,i + 1,m,nd,h1,h2,hk=>by
  show bindC kindOf ((p,w) :: P.zip vs) m x=_
  unfold bindC
  exact JZ (i:=i) (List.nodup_cons.mp nd).2 (by simpa using h1) (by simpa using h2) hk
def start (N:List Str) (vs:List V):St:=vs.map some ++ List.replicate (N.length - vs.length) none
def Z4 (CX:CXT) (P:Program) (w:World) (K:PySem.W.Frag) (mg:Str→Option Value) (base:Heap) (N:List Str) (qual:Str) (scope:Scope) (f:Addr) (cd:Value) (A:Around) (outer:List Env) (s:Shared) (H:Hp) (E:XK):Cx where
 prog:=P
 w:=w
 K:=K
 mg:=mg
 base:=base
 A:=A.deeper (11:)
 N:=N
 s₀:=s
 H₀:=H
 env:=envOfC qual scope s.heap.objs.size f cd
 outer:=outer
 stack:=envOfC qual scope s.heap.objs.size f cd :: outer
 ex:=[]
 calm:=true
 fn:=fun _=>true
 pn:=[]
 xe:=fun e s'=>wpAny (model P w) (A.deeper (11:)) (leaving (11:) e) (fun _ s''=>CX outer H s E e s'') (fun e' s''=>CX outer H s E e' s'') s'
theorem Wh {sc:Scope} {n:Nat} {x:Str} (h:sc.names.lookup x=some .cell):∃ c,(cellsFrom n sc.names []).lookup x=some c:=by
 have q:=PySem.W.cellsFrom_some sc.names n [] (.inl h)
 exact Option.isSome_iff_exists.mp q
theorem Jz {CX:CXT} {P:Program} {w:World} {K:PySem.W.Frag} {mg:Str→Option Value} {base:Heap} {N ps:List Str} {qual:Str} {scope:Scope} {f:Addr} {cd:Value} {A:Around} {outer:List Env} {s s1:Shared} {H:Hp} {E:XK} {us:List Value} {vs:List V}
 (S:FnScope N ps scope) (hd:A.handled=none) (e0:Env0 P w K mg base A outer s H) (hl:vs.length=ps.length) (r:Vals vs us)
 (x:InCallC s s.heap.objs.size (bindL (11:).kindOf (ps.zip us) fun _=>none) (cellsFrom (s.heap.objs.size + 1) scope.names []) (bindC (11:).kindOf (ps.zip us) fun _=>none) s1) :
 Inv (Z4 CX P w K mg base N qual scope f cd A outer s H E) [] (start N vs) H s1:=by
 have hpl:ps.length≤N.length:=by have:=congrArg List.length S.pre;rw [List.length_take] at this;lia
 obtain ⟨h1,tk,rfl,hk⟩:=x.done
 have noA:∀ b:Addr,b ∉ (Z4 CX P w K mg base N qual scope f cd A outer s H E).ex:=fun b z=>absurd (show b ∈ ([]:List Addr) from z) (24:)
 refine ⟨⟨e0.mod,S.kind,rfl,rfl,Nat.le_refl _,fun y z c h1 h2=>?_,fun y hy=>?_,fun y c _ h=>?_,fun _=>hd,Around.frames_deeper e0.frames,.inr ⟨rfl,rfl⟩,fun b z=>absurd z (noA b),e0.bs,e0.bsz,fun b _ _=>noA b,fun b z=>absurd z (noA b),e0.funs,e0.frf⟩,rfl,e0.bare,Un.kept hk,⟨_,x.toInCall.ns,fun i y v h1 h2 h3=>?_⟩,fun y c h=>⟨_,x.cell y c h⟩,e0.hok.fresh (7:),fun y c h=>?_,fun p hp=>absurd (show p ∈ ([]:List (9:)) from hp) (24:),e0.hok.kept hk,?_⟩
 ·exact name_of_addr x.apart (PySem.mem_of_lookup h1) (PySem.mem_of_lookup h2)
 ·have hy:scope.names.lookup y=some .cell∨scope.names.lookup y=some .free:=hy
  rcases hy with hy | hy
  ·exact Wh hy
  ·exact absurd rfl (S.nofree _ (PySem.mem_of_lookup hy))
 ·exact Nat.le_of_lt (x.above y c (PySem.mem_of_lookup h))
 ·have hi:i < vs.length:=by
   unfold start at h2
   by_cases hi:i < vs.length
   ·exact hi
   ·rw [List.getElem?_append_right (by simpa using hi)] at h2
    rw [List.getElem?_replicate] at h2
    split at h2 <;> cases h2
  have ha:vs[i]?=some v:=by
   unfold start at h2
   rw [List.getElem?_append_left (by simpa using hi),List.getElem?_map] at h2
   cases e:vs[i]? with
   | none=>rw [e] at h2;cases h2
   | some a=>rw [e] at h2;cases h2;rfl
  obtain ⟨u,hu,rv⟩:=r.get ha
  have hp:ps[i]?=some y:=by
   rw [← S.pre,List.getElem?_take_of_lt (10:)];exact h1
  have ndP:ps.Nodup:=by rw [← S.pre];exact S.nd.sublist (List.take_sublist _ _)
  refine ⟨u,rv,?_⟩
  rcases S.par y (List.mem_of_getElem? hp) with k | k
  ·exact .inl ⟨k,JB ndP hp hu k⟩
  ·obtain ⟨c,e⟩:=Wh (n:=s.heap.objs.size + 1) k
   refine .inr ⟨.inl k,c,e,?_⟩
   have q:=x.cell y c e
   rw [JZ ndP hp hu (by show scope.names.lookup y≠_;rw [k];decide)] at q
   exact q
 ·exact e0.hok.fresh (Nat.le_of_lt (x.above y c (PySem.mem_of_lookup h)))
 ·unfold start
  show _=N.length
  rw [List.length_append,List.length_map,List.length_replicate]
  lia
theorem VL {CX:CXT} {P:Program} {w:World} {K:PySem.W.Frag} {mg:Str→Option Value} {base:Heap} {k:Nat} {f:Addr} {name qual:Str} {params:Arguments} {body:List Stmt} {scope:Scope} {dV kV doc pm cdv ct oc:Value} {an od:Option Addr}
 {osl:Array (Option Value)} {N ps:List Str} {sp:Sp} (lk:K.lookup f=some ⟨oc,od,.func (PySem.W.fnOf name qual params body scope dV kV doc pm an cdv ct),osl⟩) (hcd:PySem.W.codeIn K cdv qual=true) (S:FnScope N ps scope)
 (len:∀ vs H Q E,sp vs H Q E→vs.length=ps.length)
 (hbody:∀ (A:Around) (outer:List Env) (s:Shared) (H:Hp) (vs:List V) (Q:VK) (E:XK),Room k (A.deeper (envOfC qual scope s.heap.objs.size f cdv))→sp vs H Q E →
  ∃ t,PSs (Z4 CX P w K mg base N qual scope f cdv A outer s H E) body t∧t { nx:=fun _ H'=>Q .non H',rt:=Q } (start N vs) H) :
 FnOk P w K mg base CX (k + 1) f (PySem.W.fnOf name qual params body scope dV kV doc pm an cdv ct) ps sp:=by
 refine ⟨len,fun A outer s H args us vs Q E hr e0 hb r hsp=>?_⟩
 have hl:=len _ _ _ _ hsp
 have KX:K.In s.heap:=e0.mod.kin.keeps fun b o e=>(e0.bs b o e).1
 have lim:s.heap.NoLimit:=e0.mod.nolimit.keeps fun b o e=>(e0.bs b o e).1
 have hkind:∀ y ∈ ps.zip us,scope.names.lookup y.1=some .local∨(scope.names.lookup y.1=some .cell∧((cellsFrom (s.heap.objs.size + 1) scope.names []).lookup y.1).isSome=true):=fun ⟨n,v⟩ hy=>by
  rcases S.par n (List.of_mem_zip hy).1 with q | q
  ·exact .inl q
  ·exact .inr ⟨q,PySem.W.cellsFrom_some _ _ _ (.inl q)⟩
 refine codeAny_call_function hr.depth (KX _ _ lk) rfl S.co S.gen rfl (PySem.W.codeRec_of KX hcd) (hb _ _ _ _ ?_)
 refine wpAny_newFunctionEnv_cells S.kind hkind fun env he s1 x=>?_
 subst he
 refine ⟨lim.keeps x.toInCall.keep,codeAny_func ?_⟩
 obtain ⟨t,ht,hq⟩:=hbody A outer s H vs Q E (hr.deeper _) hsp
 have I:Inv (Z4 CX P w K mg base N qual scope f cdv A outer s H E) [] (start N vs) H s1:=Jz S hr.hd e0 hl r x
 refine wpAny_mono (ht [] s1 (start N vs) H _ I hq) (fun fl s' hs=>?_) fun e s' hs=>hs
 have fin:∀ {σ':St} {H':Hp} {v:V} {u:Value},Inv (Z4 CX P w K mg base N qual scope f cdv A outer s H E) [] σ' H' s'→RelV v u→Q v H'→CE outer P w H s Q u s' :=
  fun {σ' H' v u} J rv q=>⟨v,H',J.os,J.bare,J.base,J.hok,rv,q⟩
 cases fl with
 | ret u =>
  obtain ⟨v,σ',H',J,rv,q⟩:=hs
  exact fin J rv q
 | next =>
  obtain ⟨σ',H',J,q⟩:=hs
  exact fin (v:=V.non) (u:=Value.none) J rfl q
 | brk =>
  obtain ⟨_,_,_,q⟩:=hs
  exact False.elim q
 | cont =>
  obtain ⟨_,_,_,q⟩:=hs
  exact False.elim q
end L2
namespace L2
open PySem PySem.Spec PyProof.Rows
section
variable {X:Cx} {x:Str} {p pos:Pos} {e:Expr} {es:List Expr} {t:TA} {id T:String} {r:List V→Hp→VK→Prop}
def tCB (r:List V→Hp→VK→Prop) (t:TA):TE:=fun σ H Q=>t σ H fun vs H1=>r vs H1 Q
theorem Qr (hc:Zs X (.builtin id) r) (hg:Gl X x) (hm:X.mg x=none) (hv:bootBuiltins x=some (.builtin id)) (ha:PA X (e :: es) t) (hn:x ≠ "__name__" := by decide) (hdb:(41:)=false:=by decide)
 (he:starEach (e :: es) X.env=(false,eval e X.env) :: starEach es X.env:=by rfl) (hpl:(backTo pos (starEach es X.env)).any (·.1)=false:=by rfl):PE X (.Call (.Name x p) (e :: es) [] pos) (tCB r t):=by
 intro pins s σ H Q I h
 refine wpAny_Call_Name_kw (ZU I hg hm hv ?_ hn hdb)
 exact PyProof.Rows.callWith_builtin1 (thn (ha pos pins s σ H _ I h) fun us s1 ⟨vs,H1,I1,r1,q1⟩=>hc pins s1 σ H1 vs us Q I1 r1 q1) he hpl
theorem Qx (hc:Zs X (.type T) r) (hg:Gl X x) (hm:X.mg x=none) (hv:bootBuiltins x=some (.type T)) (ha:PA X (e :: es) t) (hn:x ≠ "__name__" := by decide) (hdb:(41:)=false:=by decide)
 (he:starEach (e :: es) X.env=(false,eval e X.env) :: starEach es X.env:=by rfl) (hpl:(backTo pos (starEach es X.env)).any (·.1)=false:=by rfl):PE X (.Call (.Name x p) (e :: es) [] pos) (tCB r t):=by
 intro pins s σ H Q I h
 refine wpAny_Call_Name_kw (ZU I hg hm hv ?_ hn hdb)
 exact PyProof.Rows.callWith_type1 (thn (ha pos pins s σ H _ I h) fun us s1 ⟨vs,H1,I1,r1,q1⟩=>hc pins s1 σ H1 vs us Q I1 r1 q1) he hpl
end
end L2
namespace HT
open PySem PyProof.Rows
def Ox:List Int→List Int→Bool
 | [],[]=>false
 | [],_ :: _=>true
 | _ :: _,[]=>false
 | x :: xs,y :: ys=>if x=y then Ox xs ys else decide (x < y)
section
open PySem.SeqAt
open PySem.AutoSeq1 (wpAny_loadPart')
open PySem.MeetsSeq PySem.MeetsSeq2 PySem.MeetsSeq3
end
section
variable {prog:Program} {w:World} {A:Around} {E:Value→Shared→Prop} {s:Shared}
theorem cat_tup {t b:Addr} {vs ws:List Value} {Q:Value→Shared→Prop} (ht:IsTup s.heap t vs.toArray) (hb:IsTup s.heap b ws.toArray) (hv:vs≠[])
 (h1:ws=[]→Q (.ref t) s) (h2:ws≠[]→Q (57:) { s with heap:=s.heap.push { cls:=.type "tuple", data:=.seq (vs ++ ws).toArray } })
 (hsz:vs.length + ws.length≤sizeLine):wpAny (17:) A (binaryOp .Add (.ref t) (.ref b)) Q E s:=by
 obtain ⟨⟨cls,dd,data,sl⟩,ho,hc,n,hd⟩:=id ht
 obtain ⟨⟨cls2,dd2,data2,sl2⟩,ho2,hc2,n2,hd2⟩:=id hb
 simp only at hc hd hc2 hd2
 subst hc hd hc2 hd2
 have e:vs.toArray ++ ws.toArray=(vs ++ ws).toArray:=by simp
 by_cases hw:ws=[]
 ·exact concat_meets ⟨_,ho,rfl⟩ ⟨_,ho2,rfl⟩ noFill_tuple_add seq_tuple_add PySem.F.slot_tuple_add PySem.F.entry_tuple_add (PySem.F.args_tuple_add_2 _ _)
   (tuple_addW1 t b vs.toArray ws.toArray n n2 dd dd2 sl sl2 (by simpa using hv) (by simp [hw])) ⟨ho,ho2,h1 hw⟩
 ·refine concat_meets ⟨_,ho,rfl⟩ ⟨_,ho2,rfl⟩ noFill_tuple_add seq_tuple_add PySem.F.slot_tuple_add PySem.F.entry_tuple_add (PySem.F.args_tuple_add_2 _ _)
   (tuple_addW2 t b vs.toArray ws.toArray n n2 dd dd2 sl sl2 (by simpa using hv) (by simpa using hw) (by rw [List.size_toArray,List.size_toArray];exact hsz)) ⟨ho,ho2,?_⟩
  rw [e]
  exact h2 hw
def sIx (n d:Nat):Option Int→Nat
 | none=>d
 | some v=>if v < 0 then (v + (n:Int)).toNat else min v.toNat n
theorem sIx_none (n d:Nat):sIx n d none=d:=rfl
theorem sIx_nat (n d k:Nat):sIx n d (some (k:Int))=min k n:=by
 show (if (k:Int) < 0 then ((k:Int)+(n:Int)).toNat else min (k:Int).toNat n)=min k n
 rw [if_neg (10:),Int.toNat_natCast]
end
end HT
namespace L2
open PySem PySem.Spec PyProof.Rows
abbrev TO:=St→Hp→(Option Int→Hp→Prop)→Prop
def PO (X:Cx) (e:Option Expr) (t:TO):Prop :=
 ∀ (pins:List (9:)) (s:Shared) (σ:St) (H:Hp) (Q:Option Int→Hp→Prop),Inv X pins σ H s→t σ H Q →
  wpAny (6:) X.A (evalPart e X.env) (fun u s'=>∃ o H',Inv X pins σ H' s'∧IsPart u o∧Q o H') X.xe s
def NO:TO:=fun _ H Q=>Q none H
def R4 (t:TE):TO:=fun σ H Q=>t σ H fun x H1=>∃ i,x=.int i∧Q (some i) H1
section
variable {X:Cx} {e:Expr} {te:TE} {lo hi:Option Expr} {tl th:TO} {pos p2:Pos}
theorem XB:PO X none NO:=by
 intro pins s σ H Q I h
 rw [evalPart_none]
 exact wpAny_pure ⟨none,H,I,.none,h⟩
theorem YU (h:PE X e te):PO X (some e) (R4 te):=by
 intro pins s σ H Q I hw
 rw [evalPart_some]
 refine thn (h pins s σ H _ I hw) fun u s1 ⟨x,H1,I1,r1,q1⟩=>?_
 obtain ⟨i,rfl,q⟩:=q1
 obtain ⟨t,rfl⟩:=r1
 exact ⟨some i,H1,I1,.int i t,q⟩
def SlR (X:Cx) (r:V→Option Int→Option Int→Hp→VK→Prop):Prop :=
 ∀ (pins:List (9:)) (s:Shared) (σ:St) (H:Hp) (x:V) (v vl vu:Value) (lo hi:Option Int) (sl:Addr) (Q:VK),Inv X pins σ H s→RelV x v→s.heap.IsSliceOf sl vl vu .none→IsPart vl lo→IsPart vu hi→r x lo hi H Q →
  ∃ T id,typeLookup (.type T) "__getitem__" = pure (some (.builtin id))∧s.TypeIs v T∧wpAny (6:) X.A (getItem v (.ref sl)) (EP X pins σ Q) X.xe s
def tSl (r:V→Option Int→Option Int→Hp→VK→Prop) (te:TE) (tl th:TO):TE:=fun σ H Q=>te σ H fun x H1=>tl σ H1 fun l H2=>th σ H2 fun u H3=>r x l u H3 Q
theorem YN {r:V→Option Int→Option Int→Hp→VK→Prop} (hr:SlR X r) (he:PE X e te) (hl:PO X lo tl) (hu:PO X hi th):PE X (.Subscript e (.Slice lo hi none p2) pos) (tSl r te tl th):=by
 intro pins s σ H Q I h
 refine Subscript_ (thn (he pins s σ H _ I h) fun v s1 ⟨x,H1,I1,r1,q1⟩=>?_)
 refine wpAny_Slice (thn (hl pins s1 σ H1 _ I1 q1) fun vl s2 ⟨l,H2,I2,pl,q2⟩=>thn (hu pins s2 σ H2 _ I2 q2) fun vu s3 ⟨u,H3,I3,pu,q3⟩=>?_)
 rw [evalPart_none]
 refine wpAny_pure ?_
 have I4:Inv X pins σ H3 { s3 with heap:=s3.heap.push { cls:=.type "slice", data:=.fields #[vl,vu,.none] } }:=I3.kept (t':=s3.toks) fun b ob q=>Heap.get?_push_of_some _ q
 obtain ⟨T,id,hT,ht,hg⟩:=hr pins { s3 with heap:=s3.heap.push { cls:=.type "slice", data:=.fields #[vl,vu,.none] } } σ H3 x v vl vu l u s3.heap.objs.size Q I4 r1 (Heap.IsSliceOf.new ..) pl pu q3
 show wpAny (6:) X.A (subscriptTail e (.Slice lo hi none p2) v (.ref s3.heap.objs.size)) (EP X pins σ Q) X.xe { s3 with heap:=s3.heap.push { cls:=.type "slice", data:=.fields #[vl,vu,.none] } }
 exact tail_any (ops:=[.ref s3.heap.objs.size,v]) ht hT hg (by with_unfolding_all rfl)
def cutV (xs:List V) (lo hi:Option Int):List V:=(xs.drop (HT.sIx xs.length 0 lo)).take (HT.sIx xs.length xs.length hi - HT.sIx xs.length 0 lo)
theorem XT (xs:List V) (lo hi:Option Int):(cutV xs lo hi).length≤xs.length:=by
 unfold cutV
 rw [List.length_take,List.length_drop]
 lia
def R1 (K:PySem.W.Frag):R2:=fun x y H Q=>∃ a b xs ys,x=.ref a∧y=.ref b∧SqT K H a xs∧SqT K H b ys∧xs≠[]∧xs.length + ys.length≤sizeLine ∧
 (ys=[]→Q (.ref a) H)∧(ys≠[]→∀ p,H p=none→Q (.ref p) (upd H p (.tup (xs ++ ys))))
theorem Vals.nil_iff {xs:List V} {us:List Value} (r:Vals xs us):us=[] ↔ xs=[]:=by
 cases r with
 | nil=>simp
 | cons _ _=>simp
theorem Nq:OpR X (binaryOp .Add) (R1 X.K):=by
 intro pins s σ H x y v u Q I rx ry h
 obtain ⟨a,b,xs,ys,rfl,rfl,ha,hb,hx,hz,q1,q2⟩:=h
 cases rx
 cases ry
 obtain ⟨its,r1,p1,_⟩:=I.tuple ha
 obtain ⟨its2,r2,p2,_⟩:=I.tuple hb
 refine HT.cat_tup p1 p2 (fun z=>hx (r1.nil_iff.mp z)) (fun z=>⟨.ref a,H,I,rfl,q1 (r2.nil_iff.mp z)⟩) (fun z=>?_) (by rw [← r1.length,← r2.length];exact hz)
 refine ⟨.ref s.heap.objs.size,_,I.laid (t':=s.toks) (o:=.tup (xs ++ ys)) (fun b ob q=>Heap.get?_push_of_some _ q) (7:) ?_,rfl,q2 (fun w=>z (r2.nil_iff.mpr w)) _ (I.hok.fresh (7:))⟩
 exact ⟨by rw [List.length_append];exact hz,_,r1.append r2,IsTup.new _ _⟩
end
end L2
namespace L2
open PySem PySem.Spec PyProof.Rows
def ixN (n:Nat) (i:Int):Option Nat:=if 0≤i then (if i < n then some i.toNat else none) else if -(n:Int)≤i then some (i + n).toNat else none
def atI {α:Type} (xs:List α) (i:Int):Option α:=(ixN xs.length i).bind fun j=>xs[j]?
theorem Vl {n:Nat} {i:Int} {j:Nat} (h:ixN n i=some j):seqIndex? i n=some j∧j < n∧-(n:Int)≤i∧i < n:=by
 unfold ixN at h
 by_cases h0:0≤i
 ·rw [if_pos h0] at h
  by_cases h1:i < n
  ·rw [if_pos h1] at h
   have e:i.toNat=j:=Option.some.inj h
   exact ⟨by rw [seqIndex_of h0 h1,e],by lia,by lia,h1⟩
  ·rw [if_neg h1] at h;cases h
 ·rw [if_neg h0] at h
  by_cases h1:-(n:Int)≤i
  ·rw [if_pos h1] at h
   have e:(i + n).toNat=j:=Option.some.inj h
   exact ⟨by rw [seqIndex_neg (10:) h1,e],by lia,h1,by lia⟩
  ·rw [if_neg h1] at h;cases h
theorem XA {α:Type} {xs:List α} {i:Int} {v:α} (h:atI xs i=some v):∃ j,seqIndex? i xs.length=some j∧xs[j]?=some v∧j < xs.length∧-(xs.length:Int)≤i∧i < xs.length:=by
 unfold atI at h
 cases e:ixN xs.length i with
 | none=>rw [e] at h;cases h
 | some j =>
  rw [e] at h
  obtain ⟨h1,h2,h3,h4⟩:=Vl e
  exact ⟨j,h1,h,h2,h3,h4⟩
theorem Qv {α:Type} {xs:List α} {j:Nat} {v:α} (h:xs[j]?=some v):atI xs (j:Int)=some v:=by
 have hj:j < xs.length:=(List.getElem?_eq_some_iff.mp h).1
 have e:ixN xs.length (j:Int)=some j:=by
  unfold ixN
  rw [if_pos (10:),if_pos (10:)];simp
 unfold atI;rw [e];exact h
def NZ (b:Expr):Prop:=∀ o i,subscripted b false o i=operate [o,i] (getItem o i)
def IxR (X:Cx) (r:R2):Prop :=
 ∀ (value slice:Expr) (pins:List (9:)) (s:Shared) (σ:St) (H:Hp) (x y:V) (v u:Value) (Q:VK),Inv X pins σ H s→RelV x v→RelV y u→r x y H Q →
  subscripted slice false v u=operate [v,u] (getItem v u)→wpAny (6:) X.A (subscriptTail value slice v u) (EP X pins σ Q) X.xe s
def MtR (X:Cx) (id:String) (r:V→List V→Hp→VK→Prop):Prop :=
 ∀ (pins:List (9:)) (s:Shared) (σ:St) (H:Hp) (x:V) (xs:List V) (v:Value) (us:List Value) (Q:VK),Inv X pins σ H s→RelV x v→Vals xs us→r x xs H Q →
  wpAny (6:) X.A (call (.builtin id) (v :: us)) (EP X pins σ Q) X.xe s
section
variable {X:Cx} {a b:Expr} {ta tb:TE} {pos:Pos}
theorem Qj {r:R2} (hr:IxR X r) (ha:PE X a ta) (hb:PE X b tb) (hs:NZ b):PE X (.Subscript a b pos) (tOp r ta tb):=by
 intro pins s σ H Q I h
 exact Subscript_ (Pr ha hb I h fun v u s2 x y H2 I2 rx ry q=>hr a b pins s2 σ H2 x y v u Q I2 rx ry q (hs _ _))
def Xx (K:PySem.W.Frag):R2:=fun x y H Q=>∃ p xs i v,x=.ref p∧y=.int i∧SqL K H p xs∧atI xs i=some v∧Q v H
def GI (K:PySem.W.Frag):R2:=fun x y H Q=>∃ p xs i v,x=.ref p∧y=.int i∧SqT K H p xs∧atI xs i=some v∧Q v H
def P3:R2:=fun x y H Q=>∃ z i c,x=.str z∧y=.int i∧z.length≤sizeLine∧atI z.cps.toList i=some c∧Q (.str ⟨#[c]⟩) H
theorem Qm:IxR X (Xx X.K):=by
 intro value slice pins s σ H x y v u Q I rx ry h hs
 obtain ⟨p,xs,i,z,rfl,rfl,hq,he,q⟩:=h
 cases rx
 obtain ⟨t,rfl⟩:=ry
 obtain ⟨its,r,pl,hz⟩:=I.list hq
 obtain ⟨j,h1,h2,h3,h4,h5⟩:=XA he
 obtain ⟨w,ew,rw'⟩:=r.get h2
 have hl:=r.length
 have hn:=Jk
 have fin:EP X pins σ Q w s:=⟨z,H,I,rw',q⟩
 by_cases h0:0≤i
 ·have hj:i.toNat=j:=by
   rw [seqIndex_of h0 h5] at h1
   exact Option.some.inj h1
  exact item_listR pl.isList h0 (10:) (by rw [hj];simpa using ew) fin hs
 ·have hj:(i + (its.toArray.size:Int)).toNat=j:=by
   rw [seqIndex_neg (10:) h4] at h1
   rw [List.size_toArray,← hl]
   exact Option.some.inj h1
  exact subscriptTail_builtinR (x:=w) pl.isList.typeIs slot_list_getitem.lookup
   (wpAny_getItem_list_neg (Q:=fun r s'=>r=w∧EP X pins σ Q r s') pl.isList (10:) (by rw [List.size_toArray] <;> lia) (10:) (by rw [hj];simpa using ew) ⟨rfl,fin⟩) hs
theorem Qk:IxR X (GI X.K):=by
 intro value slice pins s σ H x y v u Q I rx ry h hs
 obtain ⟨p,xs,i,z,rfl,rfl,hq,he,q⟩:=h
 cases rx
 obtain ⟨t,rfl⟩:=ry
 obtain ⟨its,r,pl,hz⟩:=I.tuple hq
 obtain ⟨j,h1,h2,h3,h4,h5⟩:=XA he
 obtain ⟨w,ew,rw'⟩:=r.get h2
 have hl:=r.length
 have hn:=Jk
 have fin:EP X pins σ Q w s:=⟨z,H,I,rw',q⟩
 exact subscriptTail_builtinR (x:=w) pl.typeIs slot_tuple_getitem.lookup
  (getItem_tuple (j:=j) (Q:=fun r s'=>r=w∧EP X pins σ Q r s') pl (10:) (10:) (by rw [List.size_toArray,← hl];exact h1) (by simpa using ew) ⟨rfl,fin⟩) hs
theorem MN:IxR X P3:=by
 intro value slice pins s σ H x y v u Q I rx ry h hs
 obtain ⟨z,i,c,rfl,rfl,hz,he,q⟩:=h
 obtain ⟨t,rfl⟩:=rx
 obtain ⟨t',rfl⟩:=ry
 obtain ⟨j,h1,h2,h3,h4,h5⟩:=XA he
 have hl:z.cps.toList.length=z.length:=by simp [Str.length]
 rw [hl] at h1 h4 h5
 have hn:=Jk
 exact tail_any (typeIs_str s z t) slot_str_getitem.lookup (getItem_str (c:=c) (by
  have e1:decide (i < -(2 ^ 63:Int))=false:=decide_eq_false (10:)
  have e2:decide (i ≥ 2 ^ 63)=false:=decide_eq_false (10:)
  rw [e1,e2,Bool.or_false]) (by rw [h1];simpa using h2) ⟨.str ⟨#[c]⟩,H,I.tok _,(54:),q⟩) hs
theorem WU (its:List Value) (n j:Nat) (u:Value):Obj.mapSeq (·.setIfInBounds j u) { cls:=.type "list", data:=.seq its.toArray n }={ cls:=.type "list", data:=.seq (its.set j u).toArray n }:=by
 simp [Obj.mapSeq]
theorem Inv.lst {pins:List (9:)} {σ:St} {H:Hp} {s:Shared} {p:Addr} {xs:List V} (I:Inv X pins σ H s) (h:H p=some (.lst xs)) :
 ∃ (its:List Value) (n:Nat),Vals xs its∧s.heap.get? p=some { cls:=.type "list", data:=.seq its.toArray n }∧xs.length≤sizeLine:=by
 obtain ⟨z,its,n,r,e⟩:=I.hok p _ h
 exact ⟨its,n,r,e,z⟩
theorem Inv.lstUpd {pins:List (9:)} {σ:St} {H:Hp} {s:Shared} {p:Addr} {xs ys:List V} {its its':List Value} {n n':Nat} {f:Obj→Obj} (I:Inv X pins σ H s) (h:H p=some (.lst xs))
 (ho:s.heap.get? p=some { cls:=.type "list", data:=.seq its.toArray n }) (hf:f { cls:=.type "list", data:=.seq its.toArray n }={ cls:=.type "list", data:=.seq its'.toArray n' }) (r:Vals ys its') (hz:ys.length≤sizeLine) (t:Nat) :
 Inv X pins σ (upd H p (.lst ys)) { s with heap:=s.heap.update p f,toks:=t }:=by
 have e:(s.heap.update p f).get? p=some { cls:=.type "list", data:=.seq its'.toArray n' }:=by
  rw [Heap.get?_update_self f ho (by rw [hf] <;> rfl),hf]
 refine I.write (x:=p) (e:=p) (by rw [h];trivial) (.inl rfl) (fun b u hb q=>(Heap.get?_update_other _ _ (Ne.symm hb)).trans q) ⟨_,e⟩ ?_
 exact ⟨hz,its',n',r,e⟩
def Rv:V→V→V→Hp→(Hp→Prop)→Prop:=fun o i v H Q=>∃ p xs k j,o=.ref p∧i=.int k∧H p=some (.lst xs)∧ixN xs.length k=some j∧Q (upd H p (.lst (xs.set j v)))
theorem ZL:R6 X Rv:=by
 intro pins s σ H o i v ov iv u Q I ro ri rv h
 obtain ⟨p,xs,k,j,rfl,rfl,hp,hj,q⟩:=h
 cases ro
 obtain ⟨t,rfl⟩:=ri
 obtain ⟨its,n,r,ho,hz⟩:=I.lst hp
 obtain ⟨h1,h2,h3,h4⟩:=Vl hj
 have hl:=r.length
 have hn:=Jk
 have I':Inv X pins σ (upd H p (.lst (xs.set j v))) { s with heap:=s.heap.update p (Obj.mapSeq (·.setIfInBounds j u)) } :=
  I.lstUpd hp ho (WU its n j u) (r.set rv j) (by rw [List.length_set];exact hz) s.toks
 by_cases h0:0≤k
 ·have hk:k.toNat=j:=by
   rw [seqIndex_of h0 h4] at h1
   exact Option.some.inj h1
  exact PySem.W.ki_setAt ho h0 (10:) (by rw [List.size_toArray,← hl];exact h4) (by rw [hk];exact ⟨_,I',q⟩)
 ·have hk:(k + (its.toArray.size:Int)).toNat=j:=by
   rw [seqIndex_neg (10:) h3] at h1
   rw [List.size_toArray,← hl]
   exact Option.some.inj h1
  exact PySem.W.ki_setBack ho (10:) (by rw [List.size_toArray,← hl];exact h3) (10:) (by rw [hk];exact ⟨_,I',q⟩)
theorem XN (lo hi:Option Int) (n:Nat):(sliceBounds lo hi none n).1=((HT.sIx n 0 lo:Nat):Int)∧(sliceBounds lo hi none n).2.1=((HT.sIx n n hi:Nat):Int)∧(sliceBounds lo hi none n).2.2=1:=by
 refine ⟨?_,?_,rfl⟩
 ·cases lo with
  | none=>simp [sliceBounds,HT.sIx]
  | some i =>
   simp only [sliceBounds,HT.sIx,Option.getD_none,show (1:Int) > 0 by decide,if_true]
   by_cases h:i < 0
   ·simp only [h,if_true] <;> lia
   ·simp only [h,if_false] <;> lia
 ·cases hi with
  | none=>simp [sliceBounds,HT.sIx]
  | some i =>
   simp only [sliceBounds,HT.sIx,Option.getD_none,show (1:Int) > 0 by decide,if_true]
   by_cases h:i < 0
   ·simp only [h,if_true] <;> lia
   ·simp only [h,if_false] <;> lia
theorem Jv (its:List Value) (lo hi:Option Int):slicePick its.toArray lo hi none=((its.drop (HT.sIx its.length 0 lo)).take (HT.sIx its.length its.length hi - HT.sIx its.length 0 lo)).toArray:=by
 obtain ⟨h1,h2,h3⟩:=XN lo hi its.toArray.size
 unfold slicePick
 rw [h1,h2,h3]
 simp only [sliceRange_one,pick_run,List.size_toArray] <;> rfl
def P8 (K:PySem.W.Frag):V→Option Int→Option Int→Hp→VK→Prop:=fun x lo hi H Q=>∃ a xs,x=.ref a∧SqL K H a xs∧∀ p,H p=none→Q (.ref p) (upd H p (.lst (cutV xs lo hi)))
theorem Uy:SlR X (P8 X.K):=by
 intro pins s σ H x v vl vu lo hi sl Q I rx hs pl pu h
 obtain ⟨a,xs,rfl,hx,q⟩:=h
 cases rx
 obtain ⟨its,r,ht,hz⟩:=I.list hx
 have hlen:=r.length
 refine ⟨"list", _,slot_list_getitem.lookup,ht.isList.typeIs,?_⟩
 refine wpAny_getItem_list_slice ht.isList hs pl pu .none (24:) ?_ (by rw [List.size_toArray] <;> lia)
 rw [Jv,← hlen]
 refine ⟨.ref s.heap.objs.size,_,I.laid (t':=s.toks) (o:=.lst (cutV xs lo hi)) (fun b ob q=>Heap.get?_push_of_some _ q) (7:) ?_,rfl,q _ (I.hok.fresh (7:))⟩
 exact ⟨Nat.le_trans (XT xs lo hi) hz,_,0,(r.drop (HT.sIx xs.length 0 lo)).take (HT.sIx xs.length xs.length hi - HT.sIx xs.length 0 lo),Heap.get?_push_size _ rfl⟩
def YS:V→Bool
 | .non=>true
 | .bl _=>true
 | .int _=>true
 | .str _=>true
 | _=>false
def eqV:V→V→Bool
 | .non,.non=>true
 | .bl a,.bl b=>a == b
 | .bl a,.int b=>(if a then 1 else 0) == b
 | .int a,.bl b=>a == (if b then 1 else 0)
 | .int a,.int b=>a == b
 | .str a,.str b=>a == b
 | _,_=>false
theorem Pl {A:Around} {s:Shared} {y x:V} {u v:Value} (ry:RelV y u) (rx:RelV x v) (fy:YS y=true) (fx:YS x=true):SeqAt.EqAt A s u v (eqV y x):=by
 cases y with
 | non =>
  cases ry
  cases x with
  | non=>cases rx;exact SeqAt.EqAt.same _
  | bl b=>cases rx;exact SeqAt.EqAt.none_bool b
  | int b=>obtain ⟨t,rfl⟩:=rx;exact SeqAt.EqAt.none_int b t
  | str b=>obtain ⟨t,rfl⟩:=rx;exact SeqAt.EqAt.none_str b t
  | _=>exact absurd (show false=true from fx) Bool.false_ne_true
 | bl a =>
  cases ry
  cases x with
  | non=>cases rx;exact SeqAt.EqAt.bool_none a
  | bl b=>cases rx;exact SeqAt.EqAt.bool_bool a b
  | int b=>obtain ⟨t,rfl⟩:=rx;exact SeqAt.EqAt.bool_int a b t
  | str b=>obtain ⟨t,rfl⟩:=rx;exact SeqAt.EqAt.bool_str a b t
  | _=>exact absurd (show false=true from fx) Bool.false_ne_true
 | int a =>
  obtain ⟨t',rfl⟩:=ry
  cases x with
  | non=>cases rx;exact SeqAt.EqAt.int_none a t'
  | bl b=>cases rx;exact SeqAt.EqAt.int_bool a t' b
  | int b=>obtain ⟨t,rfl⟩:=rx;exact SeqAt.EqAt.int_int a t' b t
  | str b=>obtain ⟨t,rfl⟩:=rx;exact SeqAt.EqAt.int_str a t' b t
  | _=>exact absurd (show false=true from fx) Bool.false_ne_true
 | str a =>
  obtain ⟨t',rfl⟩:=ry
  cases x with
  | non=>cases rx;exact SeqAt.EqAt.str_none a t'
  | bl b=>cases rx;exact SeqAt.EqAt.str_bool a t' b
  | int b=>obtain ⟨t,rfl⟩:=rx;exact SeqAt.EqAt.str_int a t' b t
  | str b=>obtain ⟨t,rfl⟩:=rx;exact SeqAt.EqAt.str_str a t' b t
  | _=>exact absurd (show false=true from fx) Bool.false_ne_true
 | _=>exact absurd (show false=true from fy) Bool.false_ne_true
def eqU (x:V) (u:Value):Bool:=match u with
 | .none=>eqV .non x
 | .bool b=>eqV (.bl b) x
 | .int i _=>eqV (.int i) x
 | .str z _=>eqV (.str z) x
 | _=>false
theorem Mz {x y:V} {u:Value} (r:RelV y u) (f:YS y=true):eqU x u=eqV y x:=by
 cases y with
 | non=>cases r;rfl
 | bl b=>cases r;rfl
 | int i=>obtain ⟨t,rfl⟩:=r;rfl
 | str z=>obtain ⟨t,rfl⟩:=r;rfl
 | _=>exact absurd (show false=true from f) Bool.false_ne_true
theorem XF {x:V}:∀ {xs:List V} {us:List Value},Vals xs us→xs.all YS=true→us.any (eqU x)=xs.any fun y=>eqV y x
 | _,_,.nil,_=>rfl
 | y :: xs,u :: us,.cons r t,f=>by
  rw [List.all_cons,Bool.and_eq_true] at f
  rw [List.any_cons,List.any_cons,Mz r f.1,XF t f.2]
theorem U2 {A:Around} {s:Shared} {x:V} {v:Value} (rx:RelV x v) (fx:YS x=true):∀ {xs:List V} {us:List Value},Vals xs us→xs.all YS=true→∀ u ∈ us,SeqAt.EqAt A s u v (eqU x u)
 | _,_,.nil,_=>fun u hu=>by cases hu
 | y :: xs,u :: us,.cons r t,f=>fun u' hu=>by
  rw [List.all_cons,Bool.and_eq_true] at f
  rcases List.mem_cons.mp hu with rfl | hu
  ·rw [Mz r f.1];exact Pl r rx f.1 fx
  ·exact U2 rx fx t f.2 u' hu
def inV (x:V) (xs:List V):Bool:=xs.any fun y=>eqV y x
def rIn (K:PySem.W.Frag) (neg:Bool):R2:=fun x y H Q=>∃ p xs,y=.ref p∧(SqL K H p xs∨SqT K H p xs)∧YS x=true∧xs.all YS=true∧Q (.bl (if neg then !inV x xs else inV x xs)) H
theorem Gf:OpR X (compareOp .In) (rIn X.K false):=by
 intro pins s σ H x y v u Q I rx ry h
 obtain ⟨p,xs,rfl,hq,fx,fs,q⟩:=h
 cases ry
 rcases hq with hq | hq
 ·obtain ⟨its,r,pl,hz⟩:=I.list hq
  refine SeqAt.in_listAt (eqU x) pl.isList (fun w hw=>U2 rx fx r fs w (by simpa using hw)) ⟨.bl _,H,I,rfl,?_⟩
  rw [show its.toArray.any (eqU x)=its.any (eqU x) by simp,XF r fs]
  exact q
 ·obtain ⟨its,r,pl,hz⟩:=I.tuple hq
  refine SeqAt.in_tupleAt (eqU x) pl (fun w hw=>U2 rx fx r fs w (by simpa using hw)) ⟨.bl _,H,I,rfl,?_⟩
  rw [show its.toArray.any (eqU x)=its.any (eqU x) by simp,XF r fs]
  exact q
theorem Qo:Zs X (.builtin "len") (fun xs H Q=>∃ p ys,xs=[.ref p]∧(SqL X.K H p ys∨SqT X.K H p ys)∧Q (.int ys.length) H):=by
 intro pins s σ H xs us Q I r h
 obtain ⟨p,ys,rfl,hq,q⟩:=h
 obtain ⟨u,rfl,rx⟩:=X2 r
 cases rx
 have hn:=Jk
 rcases hq with hq | hq
 ·obtain ⟨its,r',pl,hz⟩:=I.list hq
  have hlen:=r'.length
  exact Calls.call_len_list pl.isList (by simp only [List.size_toArray] <;> lia) ⟨.int ys.length,H,I.tok _,⟨s.toks + 1,by rw [List.size_toArray,hlen]⟩,q⟩
 ·obtain ⟨its,r',pl,hz⟩:=I.tuple hq
  have hlen:=r'.length
  exact len_tuple pl (by simp only [List.size_toArray] <;> lia) ⟨.int ys.length,H,I.tok _,⟨s.toks + 1,by rw [List.size_toArray,hlen]⟩,q⟩
theorem ZP:Zs X (.type "list") (fun xs H Q=>∃ p ys,xs=[.ref p]∧(SqL X.K H p ys∨SqT X.K H p ys)∧∀ l,H l=none→Q (.ref l) (upd H l (.lst ys))):=by
 intro pins s σ H xs us Q I r h
 obtain ⟨p,ys,rfl,hq,q⟩:=h
 obtain ⟨u,rfl,rx⟩:=X2 r
 cases rx
 have fin:∀ (its:List Value),Vals ys its→ys.length≤sizeLine→∀ (h':Heap) (c':Nat),(∀ b o',s.heap.get? b=some o'→h'.get? b=some o') →
  h'.get? s.heap.objs.size=some { cls:=.type "list", dict:=none,data:=.seq its.toArray c',slots:=#[] }→EP X pins σ Q (57:) { s with heap:=h' }:=fun its r' hz h' c' kp e =>
  ⟨.ref s.heap.objs.size,_,I.laid (t':=s.toks) kp (7:) (show ObjOk X.prog X.w _ h' _ (.lst ys) from ⟨hz,its,c',r',e⟩),rfl,q _ (I.hok.fresh (7:))⟩
 rcases hq with hq | hq
 ·obtain ⟨its,r',pl,hz⟩:=I.list hq
  have hlen:=r'.length
  obtain ⟨o,ho,hc,n,hd⟩:=pl.isList
  exact call_list_seq p (.inl rfl) ho hc hd (fun h' c' kp e=>fin its r' hz h' c' kp e) (by simp only [List.size_toArray] <;> lia)
 ·obtain ⟨its,r',pl,hz⟩:=I.tuple hq
  have hlen:=r'.length
  obtain ⟨o,ho,hc,n,hd⟩:=pl
  exact call_list_seq p (.inr rfl) ho hc hd (fun h' c' kp e=>fin its r' hz h' c' kp e) (by simp only [List.size_toArray] <;> lia)
theorem QN:Zs X (.type "tuple") (fun xs H Q=>∃ p ys,xs=[.ref p]∧((SqL X.K H p ys∧∀ l,H l=none→Q (.ref l) (upd H l (.tup ys)))∨(SqT X.K H p ys∧Q (.ref p) H))):=by
 intro pins s σ H xs us Q I r h
 obtain ⟨p,ys,rfl,h⟩:=h
 obtain ⟨u,rfl,rx⟩:=X2 r
 cases rx
 rcases h with ⟨hq,q⟩ | ⟨hq,q⟩
 ·obtain ⟨its,r',pl,hz⟩:=I.list hq
  have hlen:=r'.length
  refine call_tuple_list pl.isList (fun h' kp=>?_) (by simp only [List.size_toArray] <;> lia)
  have I1:Inv X pins σ H { s with heap:=h' }:=I.kept (t':=s.toks) kp
  have I2:Inv X pins σ (upd H h'.objs.size (.tup ys)) { s with heap:=h'.push { cls:=.type "tuple", data:=.seq its.toArray } } :=
   I1.laid (t':=s.toks) (fun b o e=>Heap.get?_push_of_some _ e) (7:) (show ObjOk X.prog X.w _ _ _ (.tup ys) from ⟨hz,its,r',IsTup.new _ _⟩)
  exact ⟨.ref h'.objs.size,_,I2,rfl,q _ (I1.hok.fresh (7:))⟩
 ·obtain ⟨its,r',pl,hz⟩:=I.tuple hq
  exact call_tuple_same pl ⟨.ref p,H,I,rfl,q⟩
def tyV (K:PySem.W.Frag) (T:String) (x:V) (H:Hp):Prop:=match x with
 | .str _=>T = "str"
 | .int _=>T = "int"
 | .ref p=>(T = "list" ∧ ∃ xs,SqL K H p xs)∨(T = "tuple" ∧ ∃ o,K.lookup p=some o∧o.cls=.type "tuple" ∧ o.dict=none) ∨
  (T = "dict" ∧ ((∃ kvs,H p=some (.dK kvs))∨∃ kvs,H p=some (.dT kvs)))∨(T = "set" ∧ ∃ S n,H p=some (.set S n))
 | _=>False
theorem Ly {pins:List (9:)} {σ:St} {H:Hp} {s:Shared} {T:String} {x:V} {v:Value} (I:Inv X pins σ H s) (r:RelV x v) (ty:tyV X.K T x H) :
 s.TypeIs v T∧∀ a,v=.ref a→∃ ob,s.heap.get? a=some ob∧ob.dict=none:=by
 cases x with
 | str z =>
  obtain ⟨t,rfl⟩:=r
  cases (show T = "str" from ty)
  exact ⟨typeIs_str s z t,fun _ e=>nomatch e⟩
 | int i =>
  obtain ⟨t,rfl⟩:=r
  cases (show T = "int" from ty)
  exact ⟨typeIs_int s i t,fun _ e=>nomatch e⟩
 | ref p =>
  cases r
  rcases ty with ⟨rfl,xs,hq⟩ | ⟨rfl,o,hk,hc,hd⟩ | ⟨rfl,hk⟩ | ⟨rfl,S,n,hk⟩
  ·obtain ⟨its,_,pl,_⟩:=I.list hq
   refine ⟨pl.isList.typeIs,fun a e=>?_⟩
   cases e
   obtain ⟨o,n,e,c,hd,_⟩:=pl
   exact ⟨o,e,hd⟩
  ·refine ⟨⟨o,I.kIn p o hk,hc⟩,fun a e=>?_⟩
   cases e
   exact ⟨o,I.kIn _ o hk,hd⟩
  ·have z:∃ o,s.heap.get? p=some o∧o.ExactDict:=by
    rcases hk with ⟨kvs,hk⟩ | ⟨kvs,hk⟩
    ·obtain ⟨_,_,_,_,o,_,_,e,ex,_⟩:=I.hok p _ hk
     exact ⟨o,e,ex⟩
    ·obtain ⟨_,_,_,_,o,_,_,e,ex,_⟩:=I.hok p _ hk
     exact ⟨o,e,ex⟩
   obtain ⟨o,e,ex⟩:=z
   refine ⟨⟨o,e,ex.1⟩,fun a e2=>?_⟩
   cases e2
   exact ⟨o,e,ex.2.1⟩
  ·obtain ⟨o,_,_,_,e,ex,_⟩:=I.hok p _ hk
   refine ⟨⟨o,e,ex.1⟩,fun a e2=>?_⟩
   cases e2
   exact ⟨o,e,ex.2.1⟩
 | _=>exact False.elim ty
def SH (K:PySem.W.Frag) (T:String) (r:V→List V→Hp→VK→Prop) (to:TE):TE:=fun σ H Q=>to σ H fun x H1=>tyV K T x H1∧r x [] H1 Q
def tBM (K:PySem.W.Frag) (T:String) (r:V→List V→Hp→VK→Prop) (to:TE) (t:TA):TE:=fun σ H Q=>to σ H fun x H1=>tyV K T x H1∧t σ H1 fun xs H2=>r x xs H2 Q
variable {o e:Expr} {es:List Expr} {to:TE} {t:TA} {name:Str} {apos cpos:Pos} {T id:String} {r:V→List V→Hp→VK→Prop}
theorem W1 (pa:PlainAttrs T) (slot:Slot T name id) (hty:typeOf (.builtin id)=pure (.type "method_descriptor")) (hm:MtR X id r) (ho:PE X o to)
 (hbase:attributeBase o name X.env (eval o X.env)=eval o X.env:=by rfl) (hline:(apos.endLine == cpos.line)=true:=by rfl):PE X (.Call (.Attribute o name apos) [] [] cpos) (SH X.K T r to):=by
 intro pins s σ H Q I h
 refine wpAny_Call_method0_late hbase hline (thn (ho pins s σ H _ I h) fun v s1 ⟨x,H1,I1,r1,ty,q1⟩=>?_)
 obtain ⟨h1,h2⟩:=Ly I1 r1 ty
 exact ⟨T,id,pa,slot,hty,h1,h2,Calls.callWith_builtin rfl (PySem.evalArgs_none (hm pins s1 σ H1 x [] v [] Q I1 r1 .nil q1))⟩
theorem Zk (pa:PlainAttrs T) (slot:Slot T name id) (hty:typeOf (.builtin id)=pure (.type "method_descriptor")) (hm:MtR X id r) (ho:PE X o to) (ha:PA X (e :: es) t)
 (hbase:attributeBase o name X.env (eval o X.env)=eval o X.env:=by rfl)
 (hfew:((backTo cpos (starEach (e :: es) X.env)).all (fun x=>!x.1) && (backToKw cpos (keywordEach [] X.env)).all (fun x=>x.1.isSome)
  && decide ((e :: es).length + ([]:List Keyword).length + (if ([]:List Keyword).isEmpty then 0 else 1) < 30))=true:=by rfl)
 (hline:(apos.endLine == cpos.line)=true:=by rfl) (hs:starEach (e :: es) X.env=(false,eval e X.env) :: starEach es X.env:=by rfl) (hplain:(backTo cpos (starEach es X.env)).any (·.1)=false:=by rfl) :
 PE X (.Call (.Attribute o name apos) (e :: es) [] cpos) (tBM X.K T r to t):=by
 intro pins s σ H Q I h
 refine wpAny_Call_method_late hbase hfew hline rfl (thn (ho pins s σ H _ I h) fun v s1 ⟨x,H1,I1,r1,ty,q1⟩=>?_)
 obtain ⟨h1,h2⟩:=Ly I1 r1 ty
 refine ⟨T,id,pa,slot,hty,h1,h2,?_⟩
 have hA:=ha cpos pins s1 σ H1 _ I1 q1
 rw [hs] at hA ⊢
 refine Calls.callWith_builtin (by show (false || (backTo cpos (starEach es X.env)).any (·.1))=false;rw [hplain] <;> rfl) (Calls.evalArgs_plain ?_)
 exact thn hA fun us s2 ⟨vs,H2,I2,r2,q2⟩=>hm pins s2 σ H2 x vs v us Q I2 r1 r2 q2
/- xs.append(e),list.index on a module's tuple .. are MtR facts of 06m -/
end
end L2
namespace L2
open PySem PySem.Spec PyProof.Rows
def MtM (X:Cx) (id:String) (r:V→List V→Hp→VK→Prop):Prop :=
 ∀ (pins:List (9:)) (s:Shared) (σ:St) (H:Hp) (x:V) (xs:List V) (v:Value) (us:List Value) (Q:VK),Inv X pins σ H s→RelV x v→Vals xs us→r x xs H Q →
  wpAny (6:) X.A (call (.builtin id) (v :: us)) (EP X pins σ Q) X.xe s
theorem Vals.one:∀ {x:V} {us:List Value},Vals [x] us→∃ u,us=[u]∧RelV x u
 | _,_,.cons r .nil=>⟨_,rfl,r⟩
theorem Vals.two:∀ {x y:V} {us:List Value},Vals [x,y] us→∃ u v,us=[u,v]∧RelV x u∧RelV y v
 | _,_,_,.cons r (.cons q .nil)=>⟨_,_,rfl,r,q⟩
theorem Vals.zero:∀ {us:List Value},Vals [] us→us=[]
 | _,.nil=>rfl
theorem Vals.eraseIdx:∀ {xs:List V} {us:List Value} (i:Nat),Vals xs us→Vals (xs.eraseIdx i) (us.eraseIdx i)
 | _,_,_,.nil=>.nil
 | _,_,0,.cons _ t=>t
 | _,_,i + 1,.cons r t=>.cons r (Vals.eraseIdx i t)
theorem Vals.reverse {xs:List V} {us:List Value} (h:Vals xs us):Vals xs.reverse us.reverse:=by
 induction h with
 | nil=>exact .nil
 | cons r t ih=>rw [List.reverse_cons,List.reverse_cons];exact Vals.append ih (.cons r .nil)
theorem JU {α:Type}:∀ (l:List α) (i:Nat),(l.eraseIdx i).length≤l.length
 | [],_=>Nat.le_refl _
 | _ :: _,0=>Nat.le_succ _
 | _ :: r,i + 1=>Nat.succ_le_succ (JU r i)
section
variable {X:Cx} {pins:List (9:)} {σ:St} {H:Hp} {s:Shared} {l b:Addr} {xs ys zs:List V}
theorem Inv.lset {its its':List Value} {n:Nat} {f:Array Value→Array Value} {t':Nat} (I:Inv X pins σ H s) (hH:H l=some (.lst xs))
 (e:s.heap.get? l=some { cls:=.type "list", data:=.seq its.toArray n }) (hf:f its.toArray=its'.toArray) (hv:Vals ys its') (hz:ys.length≤sizeLine) :
 Inv X pins σ (upd H l (.lst ys)) { s with heap:=s.heap.update l (Obj.mapSeq f),toks:=t' }:=by
 have q:=PySem.IsL.update e f
 rw [hf] at q
 refine I.write (x:=l) (e:=l) (by rw [hH];exact trivial) (.inl rfl) (fun b' u hb hu=>(Heap.get?_update_other s.heap (Obj.mapSeq f) (Ne.symm hb)).trans hu) ⟨_,q⟩ ?_
 exact ⟨hz,its',_,hv,q⟩
theorem Inv.lnew {its:List Value} {t':Nat} (I:Inv X pins σ H s) (hv:Vals ys its) (hz:ys.length≤sizeLine) :
 Inv X pins σ (upd H s.heap.objs.size (.lst ys)) { s with heap:=s.heap.push { cls:=.type "list", data:=.seq its.toArray },toks:=t' } :=
 I.laid (fun _ _ q=>Heap.get?_push_of_some _ q) (7:) ⟨hz,its,0,hv,Heap.get?_push_size _ rfl⟩
theorem Inv.fresh (I:Inv X pins σ H s):H s.heap.objs.size=none:=I.hok.fresh (7:)
theorem Inv.lstM (I:Inv X pins σ H s) (hH:H l=some (.lst xs)):xs.length≤sizeLine∧∃ (its:List Value) (n:Nat),Vals xs its∧xs.length=its.length∧s.heap.get? l=some { cls:=.type "list", data:=.seq its.toArray n }:=by
 obtain ⟨z,its,n,r,e⟩:=I.hok l _ hH
 exact ⟨z,its,n,r,r.length,e⟩
theorem L7 {n:Nat} (h:n≤sizeLine):Builtin.List.listTooLong n=false:=by
 unfold Builtin.List.listTooLong
 exact decide_eq_false (10:)
end
section
variable {X:Cx}
def NA:V→List V→Hp→VK→Prop:=fun x vs H Q=>∃ l xs y,x=.ref l∧vs=[y]∧H l=some (.lst xs)∧xs.length < sizeLine∧Q .non (upd H l (.lst (xs ++ [y])))
theorem QY:MtM X "list.append" NA:=by
 intro pins s σ H x vs v us Q I rx rv h
 obtain ⟨l,xs,y,rfl,rfl,hH,hz,q⟩:=h
 cases rx
 obtain ⟨u,rfl,ru⟩:=rv.one
 obtain ⟨z,its,n,r,hl,e⟩:=I.lstM hH
 refine call_meets F.slot_list_append ⟨_,e,rfl⟩ F.entry_list_append (F.args_list_append_2 _ _) (PySem.list_append l its.toArray n u (by rw [List.size_toArray];lia)) ⟨e,?_⟩
 refine ⟨.non,_,I.lset (its':=its ++ [u]) hH e (24:) (r.append (.cons ru .nil)) ?_,rfl,q⟩
 rw [List.length_append,List.length_singleton]
 lia
def Oa:V→List V→Hp→VK→Prop:=fun x vs H Q=>∃ l b xs zs,x=.ref l∧vs=[.ref b]∧H l=some (.lst xs)∧H b=some (.lst zs)∧xs.length + zs.length≤sizeLine∧Q .non (upd H l (.lst (xs ++ zs)))
theorem JC:MtM X "list.extend" Oa:=by
 intro pins s σ H x vs v us Q I rx rv h
 obtain ⟨l,b,xs,zs,rfl,rfl,hH,hB,hz,q⟩:=h
 cases rx
 obtain ⟨u,rfl,ru⟩:=rv.one
 cases ru
 obtain ⟨z,its,n,r,hl,e⟩:=I.lstM hH
 obtain ⟨z2,its2,n2,r2,hl2,e2⟩:=I.lstM hB
 have hsz:its.toArray.size + its2.toArray.size≤sizeLine:=by rw [List.size_toArray,List.size_toArray];lia
 have hlong:¬ (!its.toArray.isEmpty && Builtin.List.listTooLong (its.toArray.size + its2.toArray.size))=true:=by
  rw [L7 hsz,Bool.and_false]
  exact Bool.false_ne_true
 refine call_meets F.slot_list_extend ⟨_,e,rfl⟩ F.entry_list_extend (F.args_list_extend_2 _ _)
  (AutoSeq1.list_extend_list_list_0 l its.toArray n b its2.toArray n2 hlong (by rw [List.size_toArray];lia) (10:)) ⟨e,e2,?_⟩
 refine ⟨.non,_,I.lset (its':=its ++ its2) hH e (24:) (r.append r2) ?_,rfl,q⟩
 rw [List.length_append]
 lia
def Ps:V→List V→Hp→VK→Prop:=fun x vs H Q=>∃ l xs i k y,x=.ref l∧vs=[.int i]∧H l=some (.lst xs)∧-(2 ^ 63)≤i∧i < 2 ^ 63∧seqIndex? i xs.length=some k∧xs[k]?=some y∧Q y (upd H l (.lst (xs.eraseIdx k)))
theorem Wg:MtM X "list.pop" Ps:=by
 intro pins s σ H x vs v us Q I rx rv h
 obtain ⟨l,xs,i,k,y,rfl,rfl,hH,h1,h2,hk,hy,q⟩:=h
 cases rx
 obtain ⟨u,rfl,ru⟩:=rv.one
 obtain ⟨t,rfl⟩:=ru
 obtain ⟨z,its,n,r,hl,e⟩:=I.lstM hH
 obtain ⟨w,hw,rw'⟩:=r.get hy
 refine call_meets F.slot_list_pop ⟨_,e,rfl⟩ F.entry_list_pop (F.args_list_pop_2 _ _)
  (MeetsSeq.list_pop_at l its.toArray n i t k w (fitsIndex_both h1 h2) (by rw [List.size_toArray,← hl];exact hk) (by rw [← Array.getElem?_toList];exact hw) (by rw [List.size_toArray];lia)) ⟨e,?_⟩
 refine ⟨y,_,I.lset (its':=its.eraseIdx k) hH e ?_ (r.eraseIdx k) ?_,rw',q⟩
 ·show its.toArray.eraseIdxIfInBounds k=(its.eraseIdx k).toArray
  rw [List.eraseIdxIfInBounds_toArray]
 ·have:=JU xs k
  lia
def Mj:V→List V→Hp→VK→Prop:=fun x vs H Q=>∃ l xs,x=.ref l∧vs=[]∧H l=some (.lst xs)∧Q .non (upd H l (.lst xs.reverse))
theorem WL:MtM X "list.reverse" Mj:=by
 intro pins s σ H x vs v us Q I rx rv h
 obtain ⟨l,xs,rfl,rfl,hH,q⟩:=h
 cases rx
 have hus:=rv.zero
 subst hus
 obtain ⟨z,its,n,r,hl,e⟩:=I.lstM hH
 refine call_meets F.slot_list_reverse ⟨_,e,rfl⟩ F.entry_list_reverse (F.args_list_reverse_1 _) (AutoSeq1.list_reverse_list_0 l its.toArray n (by rw [List.size_toArray];lia)) ⟨e,?_⟩
 refine ⟨.non,_,I.lset (its':=its.reverse) hH e (24:) r.reverse ?_,rfl,q⟩
 rw [List.length_reverse]
 lia
end
section
variable {prog:Program} {w:World} {A:Around} {E:Value→Shared→Prop} {s:Shared}
set_option maxRecDepth 100000 in
end
section
variable {X:Cx}
end
end L2
namespace Att
open PySem PySem.W PySem.Calls PyProof.Rows
theorem Ui {P:Params} {h:Heap}:∀ (ns:List Int) (vs:List Value),WellAll P h vs (ns.map WData.int)→IntsAre vs ns:=by
 intro ns
 induction ns with
 | nil =>
  intro vs w
  rw [List.map_nil] at w
  cases w
  exact .nil
 | cons n ns ih =>
  intro vs w
  rw [List.map_cons] at w
  cases w with
  | cons a b =>
   cases a
   exact .cons _ _ (ih _ b)
theorem V2 {l:OpenLaw} {n:Nat} (hn:l.most=some n) {P:Params} {h:Heap} {args:List WData} {vals:List Value}
 (hpre:l.row.toRowW.claim.pre args=true) (hwl:WellAll P h vals args) :
 ∃ a vs ns,vals=[Value.ref a]∧args=[WData.list (ns.map WData.int)]∧h.get? a=some { cls:=.type "list", data:=.seq vs.toArray }∧IntsAre vs ns∧ns.length≤n:=by
 have hsh:WShape.hasAll [] args [.list .int]=true:=(pre_splitW hpre).1
 have hc:l.pre.holds [] { args:=args }=true:=(pre_splitW hpre).2
 obtain ⟨d,r,rfl,h1,h2⟩:=hasAllW_cons hsh
 obtain rfl:=hasAllW_nil h2
 obtain ⟨xs,rfl,h3⟩:=hasW_list h1
 obtain ⟨ns,rfl⟩:=items_int h3
 have hlen:ns.length≤n:=by
  unfold OpenLaw.pre at hc
  have h4:(WTm.not (.lt (.lit (.int (n:Int))) (.len (.arg 0)))).holds [] { args:=[.list (ns.map .int)] }=true:=by
   have h4:=(holds_andW hc).1
   rw [hn] at h4
   exact h4
  have h5:=condW_of h4 (w_not (w_lt w_lit (w_len_list (w_arg rfl))))
  rw [List.length_map] at h5
  refine Nat.le_of_not_lt fun q=>?_
  have q':(n:Int) < ((ns.length:Nat):Int):=by lia
  first
   | (rw [decide_eq_true q'] at h5;exact absurd h5 (27:))
   | (simp at h5;lia)
 cases hwl with
 | cons w1 w2 =>
  cases w2
  cases w1 with
  | list ho hall=>exact ⟨_,_,ns,rfl,rfl,ho,Ui ns _ hall,hlen⟩
theorem GO (l:OpenLaw) (args:List WData):l.row.toRowW.claim.post args (.bool true) args=true :=
 postW_of (r:=l.row.toRowW) (X:=(true == true))
  (show WShape.has [] (.bool true) .bool=true by first | rfl | decide | simp [WShape.has,WShape.arms,WShape.armsAll])
  (show (WTm.eq .res (.lit (.bool true))).value [] { args:=args,res:=some (.bool true),after:=args }=some (.bool (true == true)) from w_eq_bool (w_res rfl) w_lit) rfl
theorem attach_call {l:OpenLaw} {n:Nat} {q:Program} {loose:List Str} {XP:(Str→Option Value)→Heap→Prop} {YP:World→Heap→Prop} {d:DefRec}
 (hn:l.most=some n) (hdf:d.params.defaults=[])
 (call:∀ (w:World) (s₀ s₁:Shared) (mg mb:Str→Option Value) (fa:Addr) (o:Obj) (pm cd doc:Value) (a:Addr) (vs:List Value) (ns:List Int),Ground q loose [] XP w s₀ mg mb s₁.heap→YP w s₁.heap →
  s₁.heap.get? fa=some o→o.data=.func (docDef d.name d.params d.body d.scope pm cd doc)→s₁.heap.CodeRec cd d.name→mg d.name=some (.ref fa) →
  s₁.heap.get? a=some { cls:=.type "list", data:=.seq vs.toArray }→IntsAre vs ns→ns.length≤n→s₁.gens=#[] →
  codeAny (model l.prog w) callerA (.call (.ref fa) ⟨[.ref a],[]⟩) (31:) s₁) :
 WalkO q loose XP YP l.row.toRowW d [] (fun f vs=>PySem.call f vs):=by
 intro w s₀ s₁ mg mb G Y fa o pm cd doc dV kV ho hd hcd hD hmg hg args vals as hpre hlay hrd hwl hlo
 obtain rfl:dV=.none:=Dflts.none hD hdf
 obtain rfl:kV=.none:=Dflts.noKw hD
 obtain ⟨a,vs,ns,rfl,rfl,hobj,hints,hlen⟩:=V2 hn hpre hwl
 refine enter_call (codeAny_mono (call w s₀ s₁ mg mb fa o pm cd doc a vs ns G Y ho (fd_plain hd) hcd hmg hobj hints hlen hg) fun r s' hq=>?_)
 obtain ⟨rfl,h2,h3,h4⟩:=hq
 exact ⟨.inl ⟨.bool true,.bool true,[],rfl,fun _=>rfl,.bool true,GO l _,fun _=>⟨List.Pairwise.nil,fun _ hm=>(nomatch hm)⟩⟩,h2,h3,h4⟩
section
variable {prog:Program} {w:World} {A:Around} {E:Value→Shared→Prop} {s:Shared} {K:Frag}
def SI (h:Heap) (L d:Addr):List (9:):=(List.range h.objs.size).filterMap fun a=>if a=L∨a=d then none else (h.get? a).map fun o=>(a,o)
end
end Att
namespace L2
open PySem PySem.Spec PyProof.Rows
theorem Y9:∀ {vs:List Value} {ns:List Int},IntsAre vs ns→Vals (ns.map V.int) vs
 | _,_,.nil=>.nil
 | _,_,.cons n t h=>.cons ⟨t,rfl⟩ (Y9 h)
def PP (H:Hp):Prop:=∀ b,H b=none∨∃ o xs,H b=some (.frz o (.lst xs))
theorem Li {P:Program} {w:World} {K:PySem.W.Frag} {mg mb:Str→Option Value} {CX:CXT} {k:Nat} {fa a:Addr} {fd:FuncData} {x:Str} {sp:Sp} {s₁:Shared} {vs:List Value} {ns:List Int}
 (KX:K.In s₁.heap) (hns:s₁.heap.Ns mainGlobals mg) (hb:s₁.heap.Ns builtinsNs mb) (hbb:∀ x:Str,x ≠ "__name__" → mb x=bootBuiltins x) (hlim:s₁.heap.NoLimit) (hg:s₁.gens=#[])
 (ha:s₁.heap.get? a=some { cls:=.type "list", data:=.seq vs.toArray }) (hi:IntsAre vs ns) (hl:ns.length≤sizeLine) (hr:Room k callerA)
 (F:∀ base:Heap,K.In base→base.Ns mainGlobals mg→FnOk P w K mg base CX k fa fd [x] sp) (hbind:∀ (s:Shared) (u:Value),BindsTo s fd ⟨[u],[]⟩ [(x,u)])
 (hsp:∀ H:Hp,PP H→SqL K H a (ns.map V.int)→sp [.ref a] H (fun v _=>v=.bl true) fun _ _ _=>False)
 (hCX:∀ H e s',CX [] H s₁ (fun _ _ _=>False) e s'→False) :
 codeAny (model P w) callerA (.call (.ref fa) ⟨[.ref a],[]⟩) (31:) s₁:=by
 have rv:=Y9 hi
 have lenV:=hi.length
 have core:∀ H:Hp,PP H→SqL K H a (ns.map V.int)→HOk P w H s₁.heap→(∀ b,H b≠none→b=a)→(H a≠none→K.lookup a=none) →
  codeAny (model P w) callerA (.call (.ref fa) ⟨[.ref a],[]⟩) (31:) s₁:=by
  intro H hO hS hok hA hK
  have base_of:∀ {b:Addr} {o:Obj},s₁.heap.get? b=some o→H b=none→(YD s₁.heap H).get? b=some o:=fun e n=>X0 e n
  have noA:∀ {b:Addr} {o:Obj} {es:Array DictEntry} {ep:Nat},s₁.heap.get? b=some o→o.data=.dict es ep→H b=none:=fun {b o es ep} e d=>by
   cases q:H b with
   | none=>rfl
   | some u =>
    have e':b=a:=hA b (by rw [q];simp)
    subst e'
    rw [ha] at e;cases e
    have d':Data.seq vs.toArray _=Data.dict es ep:=d
    cases d'
  have nsK:∀ {b:Addr} {m:Str→Option Value},s₁.heap.Ns b m→(YD s₁.heap H).Ns b m:=fun {b m} ⟨o,es,ep,e,d,r⟩=>⟨o,es,ep,base_of e (noA e d),d,r⟩
  have hKb:K.In (YD s₁.heap H):=fun b o e=>base_of (KX b o e) (by
   cases q:H b with
   | none=>rfl
   | some u =>
    have e':b=a:=hA b (by rw [q];simp)
    subst e'
    rw [hK (by rw [q];simp)] at e;cases e)
  have hM:Mod K mg (YD s₁.heap H):=⟨hKb,nsK hns,⟨mb,nsK hb,hbb⟩,let ⟨mc,h1,h2⟩:=hlim;⟨mc,nsK h1,h2⟩⟩
  have e0:Env0 P w K mg (YD s₁.heap H) callerA [] s₁ H:=⟨rfl,hM,fun b o e=>Vi e,Nat.le_of_eq (JJ _ _),trivial,fun b hb=>absurd (show b ∈ ([]:List Addr) from hb) (24:),hok,.of_eq hg⟩
  refine codeAny_mono ((F _ hKb (nsK hns)).run callerA [] s₁ H ⟨[.ref a],[]⟩ [.ref a] [.ref a] _ _ hr e0 (hbind s₁ (.ref a)) (.cons rfl .nil) (hsp H hO hS)) fun r s' h=>?_
  cases r with
  | error e=>exact (hCX H e s' h).elim
  | ok fl =>
   cases fl with
   | next=>exact False.elim h
   | brk=>exact False.elim h
   | cont=>exact False.elim h
   | ret u =>
    obtain ⟨v,H',os,bare,un,hok',r',q⟩:=h
    have q':v=.bl true:=q
    subst q'
    obtain rfl:u=Value.bool true:=r'
    refine ⟨rfl,OldK.of_keep fun b o e=>?_,os,bare⟩
    cases q:H b with
    | none=>exact un.keep b o e q (by intro z;exact absurd (show b ∈ ([]:List Addr) from z) (24:)) (24:)
    | some u =>
     rcases hO b with z | ⟨ob,xs,z⟩
     ·rw [q] at z;cases z
     ·have z2:=un.frzs b ob _ z
      obtain ⟨e1,_⟩:=hok b _ z
      obtain ⟨e2,_⟩:=hok' b _ z2
      rw [e] at e1;cases e1
      exact e2
 cases hk:K.lookup a with
 | some o =>
  have e:=KX a o hk
  rw [ha] at e
  cases e
  refine core (fun _=>none) (fun _=>.inl rfl) (.inr ⟨_,vs.toArray,_,hk,rfl,rfl,rfl,by rw [List.size_toArray,lenV];exact hl,by simpa using rv⟩) (fun b u z=>by have z':(none:Option HO)=some u:=z;cases z') (fun b z=>absurd rfl z) fun z=>absurd rfl z
 | none =>
  refine core (fun b=>if b=a then some (.frz { cls:=.type "list", data:=.seq vs.toArray } (.lst (ns.map V.int))) else none) (fun b=>?_) (.inl (.inr ⟨{ cls:=.type "list", data:=.seq vs.toArray },if_pos rfl⟩)) (fun b u z=>?_) (fun b z=>?_) fun _=>hk
  ·by_cases hb:b=a
   ·exact .inr ⟨_,_,if_pos hb⟩
   ·exact .inl (if_neg hb)
  ·by_cases hb:b=a
   ·have z':=(if_pos hb).symm.trans z
    cases z'
    subst hb
    exact ⟨ha,by rw [List.length_map];exact hl,vs,_,rv,ha⟩
   ·have z':=(if_neg hb).symm.trans z
    cases z'
  ·by_cases hb:b=a
   ·exact hb
   ·exact absurd (if_neg hb) z
end L2
namespace L2
open PySem PySem.Spec PyProof.Rows
abbrev KOf {K:PySem.W.Frag} {h:Heap} (_:K.In h):PySem.W.Frag:=K
theorem walk_of {l:PySem.W.OpenLaw} {n k:Nat} {q:Program} {loose:List Str} {XP:(Str→Option Value)→Heap→Prop} {YP:World→Heap→Prop} {d:DefRec} {K:Params→PySem.W.Frag} {CX:World→CXT} {sp:World→Sp} {x:Str}
 (hn:l.most=some n) (hn2:n≤sizeLine) (hdf:d.params.defaults=[]) (hr:Room k callerA)
 (hY:∀ (w:World) (h:Heap),YP w h→(K w.params).In h)
 (F:∀ (w:World) (mg:Str→Option Value) (fa:Addr) (h:Heap),(K w.params).In h→h.Ns mainGlobals mg→mg d.name=some (.ref fa) →
  ∃ fd:FuncData,(∀ (s:Shared) (u:Value),BindsTo s fd ⟨[u],[]⟩ [(x,u)]) ∧
   ∀ base:Heap,(K w.params).In base→base.Ns mainGlobals mg→FnOk l.prog w (K w.params) mg base (CX w) k fa fd [x] (sp w))
 (hsp:∀ (w:World) (H:Hp) (a:Addr) (ns:List Int),ns.length≤n→PP H→SqL (K w.params) H a (ns.map V.int)→sp w [.ref a] H (fun v _=>v=.bl true) fun _ _ _=>False)
 (hCX:∀ (w:World) (H:Hp) (s:Shared) (e:Value) (s':Shared),CX w [] H s (fun _ _ _=>False) e s'→False) :
 PySem.W.WalkO q loose XP YP l.row.toRowW d [] (fun f vs=>PySem.call f vs):=by
 refine Att.attach_call hn hdf fun w s₀ s₁ mg mb fa o pm cd doc a vs ns G Y ho hd hcd hmg hobj hints hlen hg=>?_
 have KX:=hY w _ Y
 obtain ⟨fd,hb,hF⟩:=F w mg fa _ KX G.T.g hmg
 exact Li KX G.T.g G.T.b G.T.builtins G.T.nolimit hg hobj hints (Nat.le_trans hlen hn2) hr hF hb (fun H hO hS=>hsp w H a ns hlen hO hS) fun H e s'=>hCX w H s₁ e s'
end L2
/- THE LAST THEOREM (shape;LID,My.* are yours):
 My.Adr: a structure of the addresses that your layer names (classes,functions);My.Txt K t: a structure (Prop) of the equations over K;
 My.txt_mk:{K} {implicit addresses ..} (e1:nsIn K mainGlobals "law" = some (some (.ref f))) (e2:K.lookup f=some ⟨oc,od,.func (fnOf "law" "law" params body scope dV kV doc pm an cdv ct),sl⟩) (e3:codeIn K cdv "law" = true) .. : ∃ t,My.Txt K t
set_option maxRecDepth 100000 in
set_option maxHeartbeats 0 in
theorem PySem.Challenge.cw_LID_holds : PySem.Challenge.rw_LID.Holds := by
 w_on;o_law;k_head;(case hw=>w_witness2)
 k_fill
 refine L2.walk_of (l:=PySem.Challenge.rw_LID) (n:=63) (k:=40) (x:="script") (CX:=fun w=>..) (sp:=fun _=>My.sp_law) rfl (27:) rfl ⟨rfl,by decide,by decide⟩ (fun w h Y=>PySem.W.kIn_of Y) ?F ?S ?C
 case F =>
  intro w mg fa h KX G hmg
  have T:∃ t,My.Txt (L2.KOf KX) t:=by
   dsimp only [L2.KOf]                          -- K must stand as «<heap const> w.params» for k_is
   refine' My.txt_mk ?e1 ?e2 ?e3 ..
   (case e1=>PySem.W.k_is)                    -- in the order: a name -> its address -> its object -> its parts
   (case e2=>PySem.W.k_is)
   ..
  obtain ⟨t,T⟩:=T
  have e0:=hmg.symm.trans (PySem.W.mg_of KX G T.law)
  cases e0                                       -- fa is the law's own address
  exact ⟨_,fun s u=>.of_eq rfl,fun base kb nb=>My.law_fn T kb nb⟩     -- if «.of_eq rfl» comes too early: refine' ⟨_,?b,fun base kb nb=>My.law_fn T kb nb⟩;exact fun s u=>.of_eq rfl
 case S=>exact fun w H a ns hl hO hS=>..
 case C=>exact ..
(the tactic k_is has no namespace: write k_is) -/
namespace L2
open PySem PySem.Spec PyProof.Rows
def defArgs (s:Stmt):Arguments:=match s with
 | .FunctionDef _ a _ _ _ _ _ _ _ _=>a
 | _=>{ posonlyargs:=[],args:=[],vararg:=none,kwonlyargs:=[],kw_defaults:=[],kwarg:=none,defaults:=[] }
def defBody (s:Stmt):List Stmt:=match s with
 | .FunctionDef _ _ b _ _ _ _ _ _ _=>b
 | _=>[]
def defScope (s:Stmt):Scope:=match s with
 | .FunctionDef _ _ _ _ _ _ sc _ _ _=>sc
 | _=>{ kind:=.function,names:=[],isGenerator:=false,isCoroutine:=false }
abbrev CX0:CXT:=fun _ _ _ _ _ _=>False
abbrev E0:XK:=fun _ _ _=>False
theorem R3 {X:Cx}:XC CX0 X E0:=fun _ _ _ _ _ _ _ h=>h.elim
structure Fun (K:PySem.W.Frag) (x qual:Str) (st:Stmt) (f:Addr) (fd:FuncData):Prop where
 ex:∃ (oc:Value) (od:Option Addr) (kV doc pm:Value) (an:Option Addr) (cdv ct:Value) (osl:Array (Option Value)),
  fd=PySem.W.fnOf x qual (defArgs st) (defBody st) (defScope st) .none kV doc pm an cdv ct∧K.lookup f=some ⟨oc,od,.func fd,osl⟩∧PySem.W.codeIn K cdv qual=true
 kp:PySem.W.keepIn K (.ref f)=true
section
variable {P:Program} {w:World} {K:PySem.W.Frag} {mg:Str→Option Value} {base:Heap}
theorem Fun.ok {x qual:Str} {st:Stmt} {f:Addr} {fd:FuncData} {N ps:List Str} {k:Nat} {sp:Sp} (F:Fun K x qual st f fd) (S:FnScope N ps (defScope st)) (len:∀ vs H Q E,sp vs H Q E→vs.length=ps.length)
 (hbody:∀ (cdv:Value) (A:Around) (outer:List Env) (s:Shared) (H:Hp) (vs:List V) (Q:VK) (E:XK),Room k (A.deeper (envOfC qual (defScope st) s.heap.objs.size f cdv))→sp vs H Q E →
  ∃ t,PSs (Z4 CX0 P w K mg base N qual (defScope st) f cdv A outer s H E).nox (defBody st) t∧t { nx:=fun _ H'=>Q .non H',rt:=Q } (start N vs) H):FnOk P w K mg base CX0 (k + 1) f fd ps sp:=by
 obtain ⟨oc,od,kV,doc,pm,an,cdv,ct,osl,rfl,lk,hcd⟩:=F.ex
 refine VL lk hcd S len fun A outer s H vs Q E hr hsp=>?_
 obtain ⟨t,h,q⟩:=hbody cdv A outer s H vs Q E hr hsp
 exact ⟨t,h.nox,q⟩
theorem Fun.binds {x qual:Str} {st:Stmt} {f:Addr} {fd:FuncData} {ps:List Str} (F:Fun K x qual st f fd)
 (h:∀ (kV doc pm:Value) (an:Option Addr) (cdv ct:Value) (us:List Value),us.length=ps.length→bindArgs (PySem.W.fnOf x qual (defArgs st) (defBody st) (defScope st) .none kV doc pm an cdv ct) ⟨us,[]⟩=pure (ps.zip us)):Binds K fd ps []:=by
 obtain ⟨oc,od,kV,doc,pm,an,cdv,ct,osl,rfl,lk,hcd⟩:=F.ex
 exact .all (h kV doc pm an cdv ct)
theorem QJ {x qual:Str} {st:Stmt} {f:Addr} {oc:Value} {od an:Option Addr} {osl:Array (Option Value)} {kV doc pm cdv ct:Value} (l:K.lookup f=some ⟨oc,od,.func (PySem.W.fnOf x qual (defArgs st) (defBody st) (defScope st) .none kV doc pm an cdv ct),osl⟩)
 (c:PySem.W.codeIn K cdv qual=true) (k:PySem.W.keepIn K (.ref f)=true):Fun K x qual st f (PySem.W.fnOf x qual (defArgs st) (defBody st) (defScope st) .none kV doc pm an cdv ct):=⟨⟨oc,od,kV,doc,pm,an,cdv,ct,osl,rfl,l,c⟩,k⟩
end
theorem Yw {A:Around} {k:Nat} (hr:Room k A):A.units + 1 < cLine:=Nat.lt_of_le_of_lt (Nat.add_le_add_left (by decide:1≤64) _) hr.units
section
variable {X:Cx}
theorem pv (i:Nat) {x:Str} {pos:Pos} (hN:X.N[i]?=some x:=by rfl) (hv:Vis X.env.scope x:=by first | exact Or.inl rfl | exact Or.inr (12:) | exact Or.inr (Or.inr rfl)) (hd:(41:)=false:=by decide)
 (hcd:(x == ("__classdict__" : Str))=false:=by decide):PE X (.Name x pos) (Zi i):=Lw hN hv hd hcd
end
theorem ZE {A B:Prop} (h:B):if false=true then A else B:=by
 rw [if_neg Bool.false_ne_true]
 exact h
theorem QZ {A B:Prop} (h:A):if true=true then A else B:=by
 rw [if_pos rfl]
 exact h
theorem Zt {c A B:Prop} [Decidable c] (h1:c→A) (h2:¬ c→B):if c then A else B:=by
 by_cases h:c
 ·rw [if_pos h]
  exact h1 h
 ·rw [if_neg h]
  exact h2 h
theorem Ou {c A B:Prop} [Decidable c] (hc:c) (h:B):if (!decide c)=true then A else B:=by
 rw [decide_eq_true hc]
 exact ZE h
def Same (H H':Hp):Prop:=∀ b o,H b=some o→H' b=some o
theorem Same.refl (H:Hp):Same H H:=fun _ _ h=>h
theorem Same.trans {H H1 H2:Hp} (a:Same H H1) (b:Same H1 H2):Same H H2:=fun c o h=>b c o (a c o h)
theorem Same.free {H H':Hp} (e:Same H H') {l:Addr} (h:H' l=Option.none):H l=Option.none:=by
 cases q:H l with
 | none=>rfl
 | some o =>
  rw [e l o q] at h
  cases h
theorem Same.seq {K:PySem.W.Frag} {H H':Hp} {a:Addr} {xs:List V} (e:Same H H') (h:SqL K H a xs):SqL K H' a xs:=by
 rcases h with (h | ⟨o,h⟩) | h
 ·exact .inl (.inl (e _ _ h))
 ·exact .inl (.inr ⟨o,e _ _ h⟩)
 ·exact .inr h
end L2
set_option maxHeartbeats 4000000
namespace L2
open PySem PySem.Spec PyProof.Rows
section
variable {X:Cx}
theorem Wa:Zs X (.builtin "isinstance") (fun xs H Q=>∃ x T t b,xs=[x,.ty T]∧TyOf X.K H x t∧PySem.W.kitOne X.K t (.type T)=some b∧Q (.bl b) H):=by
 intro pins s σ H xs us Q I r h
 obtain ⟨x,T,t,b,rfl,ty,e,q⟩:=h
 obtain ⟨u,c,rfl,rx,rc⟩:=LJ r
 cases (show c=Value.type T from rc)
 exact Gj I rx ty e fun tk=>⟨.bl b,H,I.tok tk,rfl,q⟩
end
section
variable {X:Cx}
end
mutual
inductive RdV (K:PySem.W.Frag) (H:Hp):V→PyData→Prop where
 | non:RdV K H .non .none
 | bl (b:Bool):RdV K H (.bl b) (.bool b)
 | int (i:Int):RdV K H (.int i) (.int i)
 | str (x:Str):RdV K H (.str x) (.str x)
 | lst {a:Addr} {xs:List V} {ds:List PyData}:SqL K H a xs→RdAll K H xs ds→RdV K H (.ref a) (.list ds)
 | tup {a:Addr} {xs:List V} {ds:List PyData}:SqT K H a xs→RdAll K H xs ds→RdV K H (.ref a) (.tuple ds)
inductive RdAll (K:PySem.W.Frag) (H:Hp):List V→List PyData→Prop where
 | nil:RdAll K H [] []
 | cons {v:V} {vs:List V} {d:PyData} {ds:List PyData}:RdV K H v d→RdAll K H vs ds→RdAll K H (v :: vs) (d :: ds)
end
section
variable {X:Cx} {pins:List (9:)} {σ:St} {H:Hp} {s:Shared}
mutual
theorem RdV.reads (I:Inv X pins σ H s):∀ {v:V} {d:PyData} {u:Value},RdV X.K H v d→RelV v u→∃ as,Reads s.heap u d as
 | _,_,u,.non,r=>by cases (show u=Value.none from r);exact ⟨_,.none⟩
 | _,_,u,.bl b,r=>by cases (show u=Value.bool b from r);exact ⟨_,.bool b⟩
 | _,_,u,.int i,r=>by obtain ⟨t,e⟩:=(show ∃ t,u=Value.int i t from r);cases e;exact ⟨_,.int i t⟩
 | _,_,u,.str x,r=>by obtain ⟨t,e⟩:=(show ∃ t,u=Value.str x t from r);cases e;exact ⟨_,.str x t⟩
 | _,_,u,@RdV.lst _ _ a xs ds hq hr,r=>by
  cases (show u=Value.ref a from r)
  obtain ⟨its,rv,⟨o,n,e,c,_,dt⟩,_⟩:=I.list hq
  obtain ⟨as,q⟩:=RdAll.reads I hr rv
  exact ⟨_,.list e c dt (by simpa using q)⟩
 | _,_,u,@RdV.tup _ _ a xs ds hq hr,r=>by
  cases (show u=Value.ref a from r)
  obtain ⟨its,rv,⟨o,e,c,n,dt⟩,_⟩:=I.tuple hq
  obtain ⟨as,q⟩:=RdAll.reads I hr rv
  exact ⟨_,.tuple e c dt (by simpa using q)⟩
theorem RdAll.reads (I:Inv X pins σ H s):∀ {vs:List V} {ds:List PyData} {us:List Value},RdAll X.K H vs ds→Vals vs us→∃ as,ReadsAll s.heap us ds as
 | _,_,_,.nil,r=>by cases r;exact ⟨_,.nil⟩
 | _,_,_,.cons h t,r=>by
  cases r with
  | cons r1 r2 =>
   obtain ⟨as,q⟩:=RdV.reads I h r1
   obtain ⟨bs,q2⟩:=RdAll.reads I t r2
   exact ⟨_,.cons q q2⟩
end
end
section
variable {X:Cx}
def N0 (K:PySem.W.Frag) (A:Around) (neg:Bool):R2:=fun x y H Q=>∃ d e:PyData,RdV K H x d∧RdV K H y e∧d.canLay0=true∧e.canLay0=true∧A.units + min d.depth e.depth < cLine∧Q (.bl (if neg then !PyData.eqv d e else PyData.eqv d e)) H
theorem LU:OpR X (compareOp .Eq) (N0 X.K X.A false):=by
 intro pins s σ H x y v u Q I rx ry h
 obtain ⟨d,e,hd,he,cd,ce,hu,q⟩:=h
 obtain ⟨as,q1⟩:=hd.reads I rx
 obtain ⟨bs,q2⟩:=he.reads I ry
 exact SeqAt.compareEq_reads q1 q2 cd ce hu ⟨.bl _,H,I,rfl,q⟩
theorem Ua:OpR X (compareOp .NotEq) (N0 X.K X.A true):=by
 intro pins s σ H x y v u Q I rx ry h
 obtain ⟨d,e,hd,he,cd,ce,hu,q⟩:=h
 obtain ⟨as,q1⟩:=hd.reads I rx
 obtain ⟨bs,q2⟩:=he.reads I ry
 exact SeqAt.compareNe_reads q1 q2 cd ce hu ⟨.bl _,H,I,rfl,q⟩
end
mutual
theorem UJ:∀ d:PyData,d.canLay0=true→PyData.eqv d d=true
 | .none,_=>by simp [PyData.eqv]
 | .bool _,_=>by simp [PyData.eqv]
 | .int _,_=>by simp [PyData.eqv]
 | .str _,_=>by simp [PyData.eqv]
 | .list xs,h=>by
  simp only [PyData.eqv]
  exact Ya xs (by simpa [PyData.canLay0] using h)
 | .tuple xs,h=>by
  simp only [PyData.eqv]
  exact Ya xs (by simpa [PyData.canLay0] using h)
 | .dict _,h=>by simp [PyData.canLay0] at h
theorem Ya:∀ ds:List PyData,PyData.canLayAll0 ds=true→PyData.eqvAll ds ds=true
 | [],_=>by simp [PyData.eqvAll]
 | d :: ds,h=>by
  simp only [PyData.canLayAll0,Bool.and_eq_true] at h
  simp only [PyData.eqvAll,Bool.and_eq_true]
  exact ⟨UJ d h.1,Ya ds h.2⟩
end
end L2
namespace L2
open PySem PySem.Spec PyProof.Rows
structure Fn (P:Program) (w:World) (K:PySem.W.Frag) (mg:Str→Option Value) (base:Heap) (k:Nat) (x:Str) (ps:List Str) (sp:Sp):Prop where
 ex:∃ (f:Addr) (fd:FuncData),FnOk P w K mg base CX0 k f fd ps sp∧Binds K fd ps []∧PySem.W.keepIn K (.ref f)=true∧mg x=some (.ref f)
theorem Qq {X:Cx} {k k':Nat} {x:Str} {ps:List Str} {sp:Sp} {p pos:Pos} {e:Expr} {es:List Expr} {t:TA} (F:Fn X.prog X.w X.K X.mg X.base k x ps sp) (hr:Room k' X.A) (ha:PA X (e :: es) t) (hk:k≤k':=by decide) (hg:Gl X x:=by rfl)
 (hdb:(41:)=false:=by decide) (he:starEach (e :: es) X.env=(false,eval e X.env) :: starEach es X.env:=by rfl) (hpl:(backTo pos (starEach es X.env)).any (·.1)=false:=by rfl) :
 PE X (.Call (.Name x p) (e :: es) [] pos) (Wj sp [] E0 t):=by
 obtain ⟨f,fd,h1,h2,h3,h4⟩:=F.ex
 exact Ni h1 (hr.mono hk) hg h4 h3 h2 .nil R3 ha hdb he hpl
theorem LF {c A B:Prop} [Decidable c] (hc:c) (h:A):if decide c=true then A else B:=by
 rw [decide_eq_true hc]
 exact QZ h
theorem L5 {c A B:Prop} [Decidable c] (hc:¬ c) (h:B):if decide c=true then A else B:=by
 rw [decide_eq_false hc]
 exact ZE h
theorem Qf {H:Hp} {p:Addr} (h:H p=Option.none) (o:HO):Same H (upd H p o):=fun b u q=>by rw [Qg (Qi q h)];exact q
def S (l:List Nat):Str:=⟨l.toArray⟩
theorem Ld (l:List Nat):(S l).cps.toList=l:=by simp [S]
theorem VM (l:List Nat):(S l).length=l.length:=by simp [S,Str.length]
theorem OD {a b:List Nat} (h:S a=S b):a=b:=by
 have:=congrArg (fun z:Str=>z.cps.toList) h
 simpa [Ld] using this
end L2
namespace L2
open PySem PySem.Spec PyProof.Rows
def Rr (t:TS):TS:=fun D σ H=>∃ R:St→Hp→Prop,t { D with nx:=R } σ H∧∀ σ' H',R σ' H'→D.nx σ' H'
theorem ZS {X:Cx} {st:Stmt} {t:TS} (h:PS X st t):PS X st (Rr t):=by
 intro pins s σ H D I hw
 obtain ⟨R,h1,h2⟩:=hw
 refine thn (h pins s σ H { D with nx:=R } I h1) fun f s1 q=>?_
 cases f with
 | next =>
  obtain ⟨σ',H',I',q⟩:=q
  exact ⟨σ',H',I',h2 _ _ q⟩
 | brk=>exact q
 | cont=>exact q
 | ret v=>exact q
theorem Yx:∀ xs:List Str,PyData.depthAll (xs.map PyData.str)=0
 | []=>by simp [PyData.depthAll]
 | x :: r=>by simp [PyData.depthAll,PyData.depth,Yx r]
end L2
namespace L2
open PySem PySem.Spec PyProof.Rows
structure DefAt (K:PySem.W.Frag) (x:Str) (st:Stmt):Prop where
 ex:∃ (f:Addr) (oc:Value) (od:Option Addr) (kV doc pm:Value) (an:Option Addr) (cdv ct:Value) (osl:Array (Option Value)),
  PySem.W.nsIn K mainGlobals x=some (some (.ref f))∧K.lookup f=some ⟨oc,od,.func (PySem.W.fnOf x x (defArgs st) (defBody st) (defScope st) .none kV doc pm an cdv ct),osl⟩∧PySem.W.codeIn K cdv x=true∧PySem.W.keepIn K (.ref f)=true
theorem DefAt.mk' {K:PySem.W.Frag} {x:Str} {st:Stmt} {f:Addr} {oc:Value} {od:Option Addr} {kV doc pm:Value} {an:Option Addr} {cdv ct:Value} {osl:Array (Option Value)}
 (a:PySem.W.nsIn K mainGlobals x=some (some (.ref f))) (l:K.lookup f=some ⟨oc,od,.func (PySem.W.fnOf x x (defArgs st) (defBody st) (defScope st) .none kV doc pm an cdv ct),osl⟩) (c:PySem.W.codeIn K cdv x=true) (k:PySem.W.keepIn K (.ref f)=true):DefAt K x st :=
 ⟨f,oc,od,kV,doc,pm,an,cdv,ct,osl,a,l,c,k⟩
theorem DefAt.fn {P:Program} {w:World} {K:PySem.W.Frag} {mg:Str→Option Value} {base h:Heap} {k:Nat} {x:Str} {st:Stmt} {ps:List Str} {sp:Sp} (D:DefAt K x st) (X:K.In h) (G:h.Ns mainGlobals mg)
 (ok:∀ (f:Addr) (fd:FuncData),Fun K x x st f fd→FnOk P w K mg base CX0 k f fd ps sp)
 (hb:∀ (kV doc pm:Value) (an:Option Addr) (cdv ct:Value) (us:List Value),us.length=ps.length→bindArgs (PySem.W.fnOf x x (defArgs st) (defBody st) (defScope st) .none kV doc pm an cdv ct) ⟨us,[]⟩=pure (ps.zip us)):Fn P w K mg base k x ps sp:=by
 obtain ⟨f,oc,od,kV,doc,pm,an,cdv,ct,osl,a,l,c,kp⟩:=D.ex
 have F:=QJ (st:=st) l c kp
 exact ⟨f,_,ok f _ F,F.binds hb,kp,PySem.W.mg_of X G a⟩
end L2
namespace L2
open PySem PySem.Spec PyProof.Rows
section
variable {X:Cx}
def R7 (K:PySem.W.Frag):R2:=fun x y H Q=>∃ a b xs ys,x=.ref a∧y=.ref b∧SqT K H a xs∧SqT K H b ys∧xs.length + ys.length≤sizeLine ∧
 ∀ p H',Same H H'→SqT K H' p (xs ++ ys)→Q (.ref p) H'
theorem VU:OpR X (binaryOp .Add) (R7 X.K):=by
 intro pins s σ H x y v u Q I rx ry h
 obtain ⟨a,b,xs,ys,e1,e2,ha,hb,hz,q⟩:=h
 by_cases hx:xs=[]
 ·subst e1;subst e2;subst hx
  cases (show v=Value.ref a from rx)
  cases (show u=Value.ref b from ry)
  obtain ⟨its,r1,p1,_⟩:=I.tuple ha
  obtain ⟨its2,r2,p2,_⟩:=I.tuple hb
  cases r1
  obtain ⟨⟨cls,dd,data,sl⟩,ho,hc,n,hd⟩:=id p1
  obtain ⟨⟨cls2,dd2,data2,sl2⟩,ho2,hc2,n2,hd2⟩:=id p2
  simp only at hc hd hc2 hd2
  subst hc hd hc2 hd2
  exact concat_meets ⟨_,ho,rfl⟩ ⟨_,ho2,rfl⟩ noFill_tuple_add seq_tuple_add PySem.F.slot_tuple_add PySem.F.entry_tuple_add (PySem.F.args_tuple_add_2 _ _)
   (tuple_addW0 a b _ its2.toArray n n2 dd dd2 sl sl2 rfl) ⟨ho,ho2,⟨.ref b,H,I,rfl,q b H (Same.refl H) (by simpa using hb)⟩⟩
 ·refine Nq pins s σ H x y v u Q I rx ry ⟨a,b,xs,ys,e1,e2,ha,hb,hx,hz,fun hy=>?_,fun hy p hp=>?_⟩
  ·subst hy
   exact q a H (Same.refl H) (by simpa using ha)
  ·exact q p _ (Qf hp _) (SqT.of Qb)
theorem Same.seqT {K:PySem.W.Frag} {H H':Hp} {a:Addr} {xs:List V} (e:Same H H') (h:SqT K H a xs):SqT K H' a xs:=by
 rcases h with (h | ⟨o,h⟩) | h
 ·exact .inl (.inl (e _ _ h))
 ·exact .inl (.inr ⟨o,e _ _ h⟩)
 ·exact .inr h
end
def Itd (hi:Int) (n:Nat):It:=⟨fun i _=>i < n,fun i H x H'=>H'=H∧x=.int (hi - i),fun i _=>n≤i⟩
theorem X6 {P:Program} {w:World} {K:PySem.W.Frag} {tg:Expr} (it:Addr) (hi:Int) (n:Nat):Turn P w K tg (Itd hi n) [it] it (fun i h=>IsRangeIter h it (hi + (i:Nat) * (-1)) ((n:Int) - (i:Nat)) (-1)) where
 mem:=by simp
 obj:=fun i h st b hb=>by
  have e:b=it:=by simpa using hb
  subst e
  exact ⟨_,st,fun v z=>by
   have z':Data.fields _=Data.cell v:=z
   cases z'⟩
 keep:=fun i h h' st k=>k it (24:) _ st
 item:=by
  intro X hP hw hK hc i pins s σ H E I hf st hg
  subst hP hw hK
  have hg':i < n:=hg
  obtain ⟨f0,f1,f2,f3,f4,f5⟩:=hf it (24:)
  refine wpAny_pyNext_range_item st (10:) fun h' st' sb=>?_
  have I1:Inv X pins σ H { s with heap:=h',toks:=s.toks + 1 }:=I.turned (t':=s.toks + 1) (fun b o hb e=>(sb.2 b hb).trans e) f0 f1 f3 f4 f5
  have st2:IsRangeIter h' it (hi + ((i + 1:Nat):Int) * (-1)) ((n:Int) - ((i + 1:Nat):Int)) (-1):=by
   have e1:hi + ((i + 1:Nat):Int) * (-1)=hi + (i:Nat) * (-1)+(-1):=by lia
   have e2:(n:Int) - ((i + 1:Nat):Int)=(n:Int) - (i:Nat) - 1:=by lia
   rw [e1,e2];exact st'
  exact ⟨_,rfl,XX (s:={ s with heap:=h',toks:=s.toks + 1 }) (n:="range_iterator") st2 rfl rfl (27:) ⟨.int (hi - i),H,I1,⟨s.toks,by congr 1;lia⟩,⟨rfl,rfl⟩,st2,fun b hb=>(hf b hb).1⟩⟩
 done:=by
  intro X hP hw hK hc i pins s σ H E I hf st hg
  subst hP hw hK
  have hg':n≤i:=hg
  obtain ⟨f0,f1,f2,f3,f4,f5⟩:=hf it (24:)
  exact wpAny_pyNext_range_end (I.ok.hd hc) st (10:) fun h' eb=>(36:)
 self:=fun _ _ _ _ _ st h=>wpAny_pyIter_rangeiter st h
section
variable {X:Cx} {tg:Expr}
theorem U5 {hi:Int} {n:Nat} {g:TG} {tb:TS} {D:Ends} {σ:St} {H:Hp} (Pv:Nat→St→Hp→Prop) (h0:Pv 0 σ H)
 (hs:∀ i σ H,i < n→Pv i σ H→g (.int (hi - i)) σ H fun σ2 H2=>tb { D with nx:=Pv (i + 1),ct:=Pv (i + 1),bk:=D.nx } σ2 H2) (hd:∀ σ H,Pv n σ H→D.nx σ H) :
 ∃ W:Nat→Nat→St→Hp→Prop,(∃ m,W 0 m σ H)∧∀ i m σ H,W i m σ H →
  ((Itd hi n).stop i H∧D.nx σ H)∨((Itd hi n).go i H∧∃ N:St→Hp→Prop,(23:)∧∀ x H',(Itd hi n).yld i H x H'→g x σ H' fun σ2 H2=>tb { D with nx:=N,ct:=N,bk:=D.nx } σ2 H2):=by
 refine ⟨fun i m σ H=>m=n - i∧i≤n∧Pv i σ H,⟨n - 0,rfl,Nat.zero_le _,h0⟩,?_⟩
 rintro i m σ H ⟨rfl,hi',p⟩
 by_cases h:i < n
 ·refine .inr ⟨h,Pv (i + 1),fun σ' H' p'=>⟨n - (i + 1),by lia,rfl,h,p'⟩,?_⟩
  rintro x H' ⟨rfl,rfl⟩
  exact hs i σ _ h p
 ·have e:i=n:=by lia
  subst e
  exact .inl ⟨Nat.le_refl _,hd σ H p⟩
end
end L2
namespace L2
open PySem PySem.Spec PyProof.Rows
def QV (X:Cx) (N':List Str) (scope:Scope) (cl:List (Str × Addr)) (C:Addr) (fp:List Addr) (s₀:Shared) (H₀:Hp):Cx :=
 { X with N:=N',s₀:=s₀,H₀:=H₀,env:=compEnvC scope cl C X.env,outer:=X.stack,ex:=fp,fn:=fun _=>false,pn:=[],xe:=fun _ _=>False }
def PF (X:Cx) (ifs:List Expr) (t:TT):Prop :=
 ∀ (pins:List (9:)) (s:Shared) (σ:St) (H:Hp) (Q:Bool→Hp→Prop),Inv X pins σ H s→t σ H Q →
  wpAny (6:) X.A (forIn ifs true fun c r=>if r=true then do let ok ← isTrue c X.env (eval c X.env);pure (ForInStep.yield ok) else pure (ForInStep.yield r)) (TP X pins σ Q) X.xe s
theorem Q2 {X:Cx}:PF X [] (fun _ H Q=>Q true H):=by
 intro pins s σ H Q I h
 rw [List.forIn_nil]
 exact wpAny_pure ⟨H,I,h⟩
theorem WQ {X:Cx} {c:Expr} {t:TT} (hc:PT X c t):PF X [c] t:=by
 intro pins s σ H Q I h
 rw [List.forIn_cons]
 refine wpAny_bind ?_
 rw [if_pos rfl]
 refine wpAny_bind (thn (hc pins s σ H Q I h) fun ok s1 q=>wpAny_pure ?_)
 dsimp only
 rw [List.forIn_nil]
 exact wpAny_pure q
structure OwnAt (X:Cx) (pins:List (9:)) (H:Hp) (s:Shared) (C:Addr):Prop where
 ns:∃ m,s.heap.Ns C m
 free:H C=none
 loc:C≠X.env.locals
 above:X.s₀.heap.objs.size≤C
 cells:∀ x c,X.env.cells.lookup x=some c→c≠C
 pins:∀ p ∈ X.pn ++ pins,p.1≠C
theorem OwnAt.go {X:Cx} {pins:List (9:)} {σ:St} {H:Hp} {s:Shared} {C:Addr} {h':Heap} (I:Inv X pins σ H s) (o:OwnAt X pins H s C) (hb:Heap.SameBut C s.heap h'):Inv X pins σ H { s with heap:=h' } :=
 I.turned (t':=s.toks) (fun b u hb' e=>(hb.2 b hb').trans e) o.free o.loc (.inr o.above) o.cells o.pins
def Wy (n:Nat) (Pv:Nat→List V→Hp→Prop):Nat→Nat→Hp→Prop:=fun i m H=>m=n - i∧i≤n∧∃ ys,Pv i ys H
def M7 (n:Nat) (Pv:Nat→List V→Hp→Prop) (acc:Addr) (i m:Nat):VK:=fun y H5=>∃ ys,H5 acc=some (.lst ys)∧ys.length < sizeLine∧∃ m',m' < m∧Wy n Pv (i + 1) m' (upd H5 acc (.lst (ys ++ [y])))
theorem QB {n:Nat} {Pv:Nat→List V→Hp→Prop} {acc:Addr} {i:Nat} {y:V} {H5:Hp} {ys:List V} (hi:i < n) (hacc:H5 acc=some (.lst ys)) (hl:ys.length < 5000) (hP:Pv (i + 1) (ys ++ [y]) (upd H5 acc (.lst (ys ++ [y])))):M7 n Pv acc i (n - i) y H5 :=
 ⟨ys,hacc,Nat.lt_trans hl (27:),n - (i + 1),by lia,rfl,hi,_,hP⟩
theorem Yi {n:Nat} {Pv:Nat→List V→Hp→Prop} {i:Nat} {H:Hp} {ys:List V} (hi:i < n) (hP:Pv (i + 1) ys H):∃ m',m' < n - i∧Wy n Pv (i + 1) m' H:=⟨n - (i + 1),by lia,rfl,hi,ys,hP⟩
end L2
namespace L2
open PySem PySem.Spec PyProof.Rows
end L2
namespace L2
open PySem PySem.Spec PyProof.Rows
section
variable {X:Cx}
def RZ (t:TT):TT:=fun σ H Q=>∃ R:Bool→Hp→Prop,t σ H R∧∀ b H',R b H'→Q b H'
theorem WR {e:Expr} {t:TT} (h:PT X e t):PT X e (RZ t):=by
 intro pins s σ H Q I hw
 obtain ⟨R,h1,h2⟩:=hw
 refine thn (h pins s σ H R I h1) fun b s1 q=>?_
 obtain ⟨H',I',q⟩:=q
 exact ⟨H',I',h2 _ _ q⟩
end
theorem XQ {K:PySem.W.Frag} {H:Hp}:∀ p:List Int,RdAll K H (p.map V.int) (p.map PyData.int)
 | []=>.nil
 | i :: r=>.cons (.int i) (XQ r)
theorem UK:∀ p:List Int,PyData.canLayAll0 (p.map PyData.int)=true
 | []=>by simp [PyData.canLayAll0]
 | i :: r=>by simp only [List.map_cons,PyData.canLayAll0,PyData.canLay0,UK r,Bool.and_self]
end L2
namespace L2
open PySem PySem.Spec PyProof.Rows
section
variable {X:Cx} {pins:List (9:)} {σ:St} {H:Hp} {s:Shared} {h':Heap}
theorem Inv.turnedL {ch:List Addr} {t':Nat} (I:Inv X pins σ H s) (k:∀ b o,b ∉ ch→s.heap.get? b=some o→h'.get? b=some o) (hf:∀ b ∈ ch,YC X pins H b):Inv X pins σ H { s with heap:=h',toks:=t' }:=by
 have nch:∀ b u,H b=some u→b ∉ ch:=fun b u e z=>by rw [(hf b z).1] at e;cases e
 refine I.step (g':=s.gens) (d':=s.drawn) (ch:=ch) (fun b hb=>?_) (fun b o _ _ hc e _=>k b o hc e) (fun b o _ _ hc e _=>⟨o.slots,k b o hc e⟩) (fun _ _ _ _ n=>n)
  (fun b o hc e=>⟨o,k b o hc e⟩) (fun _ _ e=>e) (fun _ _ _ e=>e) (fun b ps e=>⟨#[],by rw [e];simp⟩) (fun m hm=>?_) (fun b u e=>?_) I.bare
 ·obtain ⟨f0,f1,f2,f3,f4,f5⟩:=hf b hb
  exact ⟨f3,f1,f4,f5⟩
 ·obtain ⟨o,es,ep,ho,r⟩:=hm
  exact ⟨o,es,ep,k _ o (fun z=>(hf _ z).2.1 rfl) ho,r⟩
 ·refine (I.hok b u e).stay (fun c v hc q=>k c v ?_ q) (fun _ q=>q) fun _ _ q=>q
  rcases hc with z | z
  ·rw [z];exact nch b u e
  ·exact nch c _ z
theorem Inv.turnedNew {ch:List Addr} {t':Nat} {a:Addr} {o:HO} (I:Inv X pins σ H s) (k:∀ b o,b ∉ ch→s.heap.get? b=some o→h'.get? b=some o) (hf:∀ b ∈ ch,YC X pins H b)
 (hp:s.heap.objs.size≤a) (new:ObjOk X.prog X.w (upd H a o) h' a o):Inv X pins σ (upd H a o) { s with heap:=h',toks:=t' }:=by
 have hn:H a=none:=I.hok.fresh hp
 have nch:∀ b u,H b=some u→b ∉ ch:=fun b u e z=>by rw [(hf b z).1] at e;cases e
 have lt:∀ b u,s.heap.get? b=some u→b≠a:=fun b u e=>Nat.ne_of_lt (Nat.lt_of_lt_of_le (58:) hp)
 refine I.step (g':=s.gens) (d':=s.drawn) (ch:=ch) (fun b hb=>?_) (fun b o _ _ hc e _=>k b o hc e) (fun b o _ _ hc e _=>⟨o.slots,k b o hc e⟩) (fun b u _ e n=>by rw [Qg (lt b u e)];exact n)
  (fun b o hc e=>⟨o,k b o hc e⟩) (fun b xs e=>by rw [Qg (Qi e hn)];exact e) (fun b u xs e=>by rw [Qg (Qi e hn)];exact e) (fun b ps e=>⟨#[],by rw [Qg (Qi e hn),e];simp⟩) (fun m hm=>?_) (fun b u e=>?_) I.bare
 ·obtain ⟨f0,f1,f2,f3,f4,f5⟩:=hf b hb
  exact ⟨f3,f1,f4,f5⟩
 ·obtain ⟨o,es,ep,ho,r⟩:=hm
  exact ⟨o,es,ep,k _ o (fun z=>(hf _ z).2.1 rfl) ho,r⟩
 ·by_cases hb:b=a
  ·subst hb
   rw [Qb] at e;cases e
   exact new
  ·rw [Qg hb] at e
   refine (I.hok b u e).stay (fun c v hc q=>k c v ?_ q) (fun c q=>by rw [Qg (Qi q hn)];exact q) fun c xs q=>by rw [Qg (Qi q hn)];exact q
   rcases hc with z | z
   ·rw [z];exact nch b u e
   ·exact nch c _ z
end
def Itz (K:PySem.W.Frag) (a b:Addr) (xs ys:List V):It :=
 ⟨fun i H=>SqL K H a xs∧SqL K H b ys∧i < xs.length∧i < ys.length,fun i H x H'=>∃ p u v,H p=none∧x=.ref p∧H'=upd H p (.tup [u,v])∧xs[i]?=some u∧ys[i]?=some v,fun i H=>SqL K H a xs∧SqL K H b ys∧(xs.length≤i∨ys.length≤i)⟩
theorem Mq {P:Program} {w:World} {K:PySem.W.Frag} {elts:List Expr} {k1:Nat} {pos:Pos} (a b z:Addr) (xs ys:List V) (TI TO i1 i2:Addr) (Ap:ZipApart z TI TO i1 i2 a b) :
 Turn P w K (.Tuple elts k1 pos) (Itz K a b xs ys) [z,TI,TO,i1,i2] z (fun i h=>IsZip h z TI TO .none∧IsPair h TI (.ref i1) (.ref i2)∧(∃ u v,IsPair h TO u v)∧h.IsListIter i1 a i∧h.IsListIter i2 b i) where
 mem:=by simp
 obj:=fun i h st c hc=>by
  obtain ⟨hz,hTI,⟨u,v,hTO⟩,h1,h2⟩:=st
  simp only [List.mem_cons,List.mem_nil_iff,or_false] at hc
  rcases hc with rfl | rfl | rfl | rfl | rfl
  ·exact ⟨_,hz,fun v z=>by have z':Data.fields _=Data.cell v:=z;cases z'⟩
  ·exact ⟨_,hTI,fun v z=>by have z':Data.seq _ _=Data.cell v:=z;cases z'⟩
  ·exact ⟨_,hTO,fun v z=>by have z':Data.seq _ _=Data.cell v:=z;cases z'⟩
  ·obtain ⟨o,e,c,d⟩:=h1;exact (48:)
  ·obtain ⟨o,e,c,d⟩:=h2;exact (48:)
 keep:=fun i h h' st k=>by
  obtain ⟨hz,hTI,⟨u,v,hTO⟩,h1,h2⟩:=st
  exact (52:)
 item:=by
  intro X hP hw hK hc i pins s σ H E I hf st hg
  subst hP hw hK
  obtain ⟨hz,hTI,⟨u0,v0,hTO⟩,h1,h2⟩:=st
  obtain ⟨qa,qb,lx,ly⟩:=hg
  obtain ⟨its,rv,p,_⟩:=I.list qa
  obtain ⟨its2,rv2,p2,_⟩:=I.list qb
  have ex:xs[i]?=some xs[i]:=List.getElem?_eq_getElem lx
  have ey:ys[i]?=some ys[i]:=List.getElem?_eq_getElem ly
  obtain ⟨u,hu,ru⟩:=rv.get ex
  obtain ⟨v,hv,rv'⟩:=rv2.get ey
  refine wpAny_pyNext_zip_item Ap hz hTI hTO h1 h2 p.isList p2.isList (x:=u) (y:=v) (by simpa using hu) (by simpa using hv) fun h' a1 a2 a3 a4 a5 a6 hk=>?_
  refine ⟨.ref s.heap.objs.size,rfl,wpAny_letOwnedTupleGo_zip (s:={ s with heap:=h' }) a1 fun h'' hz' hs'=>?_⟩
  have lt:∀ {c o},s.heap.get? c=some o→c≠s.heap.objs.size:=fun e=>Nat.ne_of_lt (58:)
  have e5:IsPair h'' s.heap.objs.size u v:=(hs'.2 _ (Ne.symm (lt hz))).trans a5
  have hch:∀ c ∈ [z,TO,i1,i2],YC X pins H c:=fun c hc=>hf c (by
   simp only [List.mem_cons,List.mem_nil_iff,or_false] at hc ⊢
   rcases hc with rfl | rfl | rfl | rfl <;> simp)
  have I2:Inv X pins σ (upd H s.heap.objs.size (.tup [xs[i],ys[i]])) { s with heap:=h'',toks:=s.toks }:=by
   refine I.turnedNew (ch:=[z,TO,i1,i2]) (fun c o hc e=>?_) hch (7:) ⟨by show 2≤sizeLine;decide,[u,v],.cons ru (.cons rv' .nil),⟨_,e5,rfl,_,rfl⟩⟩
   simp only [List.mem_cons,List.mem_nil_iff,or_false,not_or] at hc
   exact (hs'.2 c hc.1).trans (hk c o hc.1 hc.2.1 hc.2.2.1 hc.2.2.2 e)
  have hfr:∀ c ∈ [z,TI,TO,i1,i2],upd H s.heap.objs.size (.tup [xs[i],ys[i]]) c=none:=fun c hc=>by
   have hc2:=hf c hc
   have:c≠s.heap.objs.size:=by
    simp only [List.mem_cons,List.mem_nil_iff,or_false] at hc
    rcases hc with rfl | rfl | rfl | rfl | rfl
    ·exact lt hz
    ·exact lt hTI
    ·exact lt hTO
    ·obtain ⟨o,e,_⟩:=h1;exact lt e
    ·obtain ⟨o,e,_⟩:=h2;exact lt e
   rw [Qg this];exact hc2.1
  exact (19:)
 done:=by
  intro X hP hw hK hc i pins s σ H E I hf st hg
  subst hP hw hK
  obtain ⟨hz,hTI,⟨u0,v0,hTO⟩,h1,h2⟩:=st
  obtain ⟨qa,qb,hl⟩:=hg
  obtain ⟨its,rv,p,_⟩:=I.list qa
  obtain ⟨its2,rv2,p2,_⟩:=I.list qb
  have l1:=rv.length
  have l2:=rv2.length
  have hch:∀ c ∈ [z,TO,i1,i2],YC X pins H c:=fun c hc=>hf c (by
   simp only [List.mem_cons,List.mem_nil_iff,or_false] at hc ⊢
   rcases hc with rfl | rfl | rfl | rfl <;> simp)
  refine wpAny_pyNext_zip_end (I.ok.hd hc) Ap hz hTI hTO h1 h2 p.isList p2.isList ?_ fun h' hk=>⟨rfl,I.turnedL (t':=s.toks) (ch:=[z,TO,i1,i2]) (fun c o hc e=>?_) hch⟩
  ·rcases hl with q | q
   ·exact .inl (by simp;lia)
   ·exact .inr (by simp;lia)
  ·simp only [List.mem_cons,List.mem_nil_iff,or_false,not_or] at hc
   exact hk c o hc.1 hc.2.1 hc.2.2.1 hc.2.2.2 e
 self:=fun _ _ _ _ _ st h=>wpAny_pyIter_zip st.1 h
theorem nne {x y:Nat} (h:x < y∨y < x):x≠y:=by lia
section
variable {X:Cx} {elts:List Expr} {k1:Nat} {tpos:Pos}
def Sm (K:PySem.W.Frag) (ta:TA):TI:=fun σ H R=>ta σ H fun vs H1=>∃ a b xs ys,vs=[.ref a,.ref b]∧SqL K H1 a xs∧SqL K H1 b ys∧R (Itz K a b xs ys) H1
theorem OH {e1 e2:Expr} {ta:TA} {p pos:Pos} (hg:Gl X "zip") (hm:X.mg "zip" = none) (ha:PA X [e1,e2] ta) (hs:starEach [e1,e2] X.env=[(false,eval e1 X.env),(false,eval e2 X.env)]:=by rfl) (hs2:starEach [e2] X.env=[(false,eval e2 X.env)]:=by rfl) :
 PI X (.Tuple elts k1 tpos) (.Call (.Name "zip" p) [e1,e2] [] pos) (Sm X.K ta):=by
 intro pins s σ H R I h
 refine Call_ (ZU I hg hm PyProof.Rows.boot_zip (PyProof.Rows.callWith_type1 (50:) (by rw [hs,hs2]) (by rw [hs2];rfl)))
 obtain ⟨a,b,xs,ys,e,qa,qb,q⟩:=q1
 subst e
 obtain ⟨u1,u2,e3,r3,r4⟩:=r1.two
 subst e3
 cases (show u1=Value.ref a from r3)
 cases (show u2=Value.ref b from r4)
 obtain ⟨its,rv,pl,_⟩:=I1.list qa
 obtain ⟨its2,rv2,pl2,_⟩:=I1.list qb
 have la:@LT.lt Nat _ a s1.heap.objs.size:=by obtain ⟨o,n,e,_⟩:=pl;exact Heap.lt_size e
 have lb:@LT.lt Nat _ b s1.heap.objs.size:=by obtain ⟨o,n,e,_⟩:=pl2;exact Heap.lt_size e
 refine call_zip_2 pl.isList pl2.isList fun h' hz hTI hTO h1 h2 hsz hk=>?_
 refine wpAny_pyIter_zip hz ?_
 have I2:Inv X pins σ H1 { s1 with heap:=h' }:=I1.kept (t':=s1.toks) hk
 refine ⟨s1.heap.objs.size + 4,[s1.heap.objs.size + 4,s1.heap.objs.size + 2,s1.heap.objs.size + 3,s1.heap.objs.size,s1.heap.objs.size + 1],_,_,H1,rfl,I2,Mq a b (s1.heap.objs.size + 4) xs ys (s1.heap.objs.size + 2) (s1.heap.objs.size + 3) s1.heap.objs.size (s1.heap.objs.size + 1) ?_,⟨hz,hTI,⟨_,_,hTO⟩,h1,h2⟩,fun c hc=>?_,q⟩
 ·constructor <;> (refine nne ?_;lia)
 ·have hle:@LE.le Nat _ s1.heap.objs.size c:=by
   simp only [List.mem_cons,List.mem_nil_iff,or_false] at hc
   rcases hc with rfl | rfl | rfl | rfl | rfl <;> lia
  exact I1.fpOk hle (I1.hok.fresh hle)
theorem Oh {K:PySem.W.Frag} {a b:Addr} {xs ys:List V} {g:TG} {tb:TS} {D:Ends} {σ:St} {H:Hp} (hlen:xs.length=ys.length) (Pv:Nat→St→Hp→Prop) (h0:Pv 0 σ H) (hl:∀ i σ H,i≤xs.length→Pv i σ H→SqL K H a xs∧SqL K H b ys)
 (hs:∀ i u v p σ H,xs[i]?=some u→ys[i]?=some v→H p=none→Pv i σ H→g (.ref p) σ (upd H p (.tup [u,v])) fun σ2 H2=>tb { D with nx:=Pv (i + 1),ct:=Pv (i + 1),bk:=D.nx } σ2 H2) (hd:∀ σ H,Pv xs.length σ H→D.nx σ H) :
 ∃ W:Nat→Nat→St→Hp→Prop,(∃ m,W 0 m σ H)∧∀ i m σ H,W i m σ H →
  ((Itz K a b xs ys).stop i H∧D.nx σ H)∨((Itz K a b xs ys).go i H∧∃ N:St→Hp→Prop,(23:)∧∀ x H',(Itz K a b xs ys).yld i H x H'→g x σ H' fun σ2 H2=>tb { D with nx:=N,ct:=N,bk:=D.nx } σ2 H2):=by
 refine (59:)
 rintro i m σ H ⟨rfl,hi,p⟩
 obtain ⟨qa,qb⟩:=hl i σ H hi p
 by_cases h:i < xs.length
 ·refine .inr ⟨⟨qa,qb,h,by lia⟩,Pv (i + 1),fun σ' H' p'=>⟨xs.length - (i + 1),by lia,rfl,h,p'⟩,?_⟩
  rintro x H' ⟨p',u,v,hp,rfl,rfl,hu,hv⟩
  exact hs i u v p' σ H hu hv hp p
 ·have e:i=xs.length:=by lia
  subst e
  exact .inl ⟨⟨qa,qb,.inl (7:)⟩,hd σ H p⟩
end
end L2
namespace L2
open PySem PySem.Spec PyProof.Rows
theorem YA:∀ {ns:List Int} {us:List Value},Vals (ns.map V.int) us→∃ xs:List (Int × Tok),us=xs.map (fun p=>Value.int p.1 p.2)∧xs.map (·.1)=ns
 | [],_,.nil=>⟨[],rfl,rfl⟩
 | n :: ns,_,.cons r rr=>by
  obtain ⟨t,e⟩:=r
  obtain ⟨xs,e1,e2⟩:=YA rr
  exact ⟨(n,t) :: xs,by rw [e,e1];rfl,by rw [List.map_cons,e2]⟩
theorem JP (xs:List (Int × Tok)):intItems xs.toArray=(xs.map (fun p=>Value.int p.1 p.2)).toArray:=by
 simp [intItems]
theorem Lx (xs:List (Int × Tok)) (j:Nat):numAt xs.toArray j=(xs.map (·.1)).getD j 0:=by rw [numAt_eq]
theorem Nh (xs:List (Int × Tok)) (j:Nat):preSum (numAt xs.toArray) j=((xs.map (·.1)).take j).sum:=by rw [preSum_eq]
def L8 (ns:List Int):Prop:=(∀ n ∈ ns,0≤n)∧ns.sum≤1000000000
section
variable {X:Cx}
end
theorem gtI {prog:Program} {w:World} {A:Around} {E:Value→Shared→Prop} {s:Shared} {a M:Int} {t u:Tok} {Q:Value→Shared→Prop} (h:Q (.bool (decide (M < a))) s):wpAny (17:) A (richCompare .Gt (.int a t) (.int M u)) Q E s :=
 CmpOf.ints_gt (P:=fun k v=>∃ t,v=.int (if k=0 then a else M) t) (fun k=>if k=0 then a else M) (fun _ _ h=>h) 0 1 _ _ s Q E ⟨t,rfl⟩ ⟨u,rfl⟩ h
def Mx (val:Nat→Int) (i:Nat) (M:Int):Prop:=(∃ j,j < i∧val j=M)∧∀ j,j < i→val j≤M
section
variable {prog:Program} {w:World} {A:Around} {R:Result→Shared→Prop} {I:Addr} {fp wr:List Addr} {n:Nat} {P:Nat→Value→Prop} {St:Nat→Heap→Prop}
theorem Gz (W:Walks prog w A.in1 I fp wr n P St) (val:Nat→Int) (hval:∀ i v,P i v→∃ t,v=.int (val i) t) (d:Value) (S:Addr) (hSf:S ∉ fp) :
 ∀ (k i:Nat) (s:Shared) (ob:List Value) (c:Nat),n - i=k→i≤n→St i s.heap→((i=0∧ob=[])∨∃ M t,ob=[Value.int M t,.int M t]∧Mx val i M) →
  s.heap.get? S=some { cls:=.type "list", dict:=none,data:=.seq ob.toArray c,slots:=#[] } →
  (∀ v h' tk,((n=0∧v=d)∨∃ M t,v=.int M t∧Mx val n M)→(∀ b o,b ∉ wr→b≠S→s.heap.get? b=some o→h'.get? b=some o)→R (.ok (.ret v)) { s with heap:=h',toks:=tk }) →
  codeAny (17:) A (.builtin "max.loop" ⟨[.ref I,.none,.ref S],[(Str.ofString "default", d)]⟩) R s:=by
 have hSw:S ∉ wr:=fun h=>hSf (W.sub _ h)
 have hname:(toString "max" ++ toString ".loop" : String) = "max.loop" := by decide
 intro k
 induction k with
 | zero =>
  intro i s ob c hk hi hst hob hS hR
  have hin:i=n:=by lia
  subst hin
  refine codeAny_builtin F.entry_max_loop ?_
  rw [Around.under_plainId F.plain_max_loop _]
  show wpAny _ A.in1 (seqItems? (.ref S) >>= _) _ _ s
  refine wpAny_bind (wpAny_seqItems hS rfl ?_)
  rcases hob with ⟨h0,rfl⟩ | ⟨M,t,rfl,hM⟩
  ·show wpAny _ A.in1 (tryCatch (pyNext (.ref I)) _ >>= _) _ _ s
   refine wpAny_bind (wpAny_tryCatch (W.done s _ _ hst fun h' tk hk'=>?_))
   show wpAny _ A.in1 (rule _ >>= _) _ _ _
   exact wpAny_bind (wpAny_rule (wpAny_pure (hR d h' tk (.inl ⟨h0,rfl⟩) fun b o hb _ e=>hk' b o hb e)))
  ·show wpAny _ A.in1 (tryCatch (pyNext (.ref I)) _ >>= _) _ _ s
   refine wpAny_bind (wpAny_tryCatch (W.done s _ _ hst fun h' tk hk'=>?_))
   show wpAny _ A.in1 (updateSeq S (fun _=>#[]) >>= _) _ _ _
   refine wpAny_bind (wpAny_updateSeq (hk' S _ hSw hS) rfl (wpAny_bind (wpAny_letGo (wpAny_pure (hR _ _ tk (.inr ⟨M,t,rfl,hM⟩) fun b o hbw hbS e=>?_)))))
   exact (Heap.get?_update_other _ _ (Ne.symm hbS)).trans (hk' b o hbw e)
 | succ k ih =>
  intro i s ob c hk hi hst hob hS hR
  have hlt:i < n:=by lia
  refine codeAny_builtin F.entry_max_loop ?_
  rw [Around.under_plainId F.plain_max_loop _]
  show wpAny _ A.in1 (seqItems? (.ref S) >>= _) _ _ s
  refine wpAny_bind (wpAny_seqItems hS rfl ?_)
  rcases hob with ⟨h0,rfl⟩ | ⟨M,t,rfl,hM⟩
  ·show wpAny _ A.in1 (tryCatch (pyNext (.ref I)) _ >>= _) _ _ s
   refine wpAny_bind (wpAny_tryCatch (W.item i s _ _ hlt hst fun v h' tk hP hst' hk'=>?_))
   obtain ⟨tv,rfl⟩:=hval i v hP
   have hS':=hk' S _ hSw hS
   show wpAny _ A.in1 (updateSeq S (fun _=>#[_,_]) >>= _) _ _ _
   refine wpAny_bind (wpAny_updateSeq hS' rfl ?_)
   rw [hname]
   refine wpAny_pure ⟨plainId_quiet F.plain_max_loop _,ih (i + 1) _ [.int (val i) tv,.int (val i) tv] _ (10:) hlt (W.frame _ _ _ hst' fun b hbf o e=>?_) (.inr ⟨val i,tv,rfl,⟨i,by lia,rfl⟩,fun j hj=>?_⟩) (Heap.get?_update_self _ hS' rfl) fun v h'' tk'' hv hk''=>?_⟩
   ·exact (Heap.get?_update_other _ _ (fun h:S=b=>hSf (by rw [h];exact hbf))).trans e
   ·have:j=i:=by lia
    rw [this];exact Int.le_refl _
   ·exact hR v h'' tk'' hv fun b o hbw hbS e=>hk'' b o hbw hbS ((Heap.get?_update_other _ _ (Ne.symm hbS)).trans (hk' b o hbw e))
  ·show wpAny _ A.in1 (tryCatch (pyNext (.ref I)) _ >>= _) _ _ s
   refine wpAny_bind (wpAny_tryCatch (W.item i s _ _ hlt hst fun v h' tk hP hst' hk'=>?_))
   obtain ⟨tv,rfl⟩:=hval i v hP
   have hS':=hk' S _ hSw hS
   show wpAny _ A.in1 (tryCatch (holding [_,_] (richCompare .Gt _ _ >>= _)) _ >>= _) _ _ _
   refine wpAny_bind (wpAny_tryCatch (wpAny_holding (wpAny_bind (gtI (M:=M) ?_))))
   refine wpAny_bind (wpAny_holding (wpAny_truthy_bool ?_))
   refine wpAny_bind (wpAny_letGo (wpAny_pure ?_))
   by_cases hb:M < val i
   ·rw [decide_eq_true hb]
    simp only [if_true]
    refine wpAny_bind (wpAny_updateSeq hS' rfl (wpAny_bind (wpAny_letGo ?_)))
    rw [hname]
    refine wpAny_pure ⟨plainId_quiet F.plain_max_loop _,ih (i + 1) _ [.int (val i) tv,.int (val i) tv] _ (10:) hlt (W.frame _ _ _ hst' fun b hbf o e=>?_) (.inr ⟨val i,tv,rfl,⟨i,by lia,rfl⟩,fun j hj=>?_⟩) (Heap.get?_update_self _ hS' rfl) fun v h'' tk'' hv hk''=>?_⟩
    ·exact (Heap.get?_update_other _ _ (fun h:S=b=>hSf (by rw [h];exact hbf))).trans e
    ·by_cases hji:j=i
     ·rw [hji];exact Int.le_refl _
     ·have:=hM.2 j (10:);lia
    ·exact hR v h'' tk'' hv fun b o hbw hbS e=>hk'' b o hbw hbS ((Heap.get?_update_other _ _ (Ne.symm hbS)).trans (hk' b o hbw e))
   ·rw [decide_eq_false hb]
    simp only [Bool.false_eq_true,if_false]
    refine wpAny_bind (wpAny_letGo ?_)
    rw [hname]
    refine wpAny_pure ⟨plainId_quiet F.plain_max_loop _,ih (i + 1) _ [.int M t,.int M t] c (10:) hlt hst' (.inr ⟨M,t,rfl,?_,fun j hj=>?_⟩) hS' fun v h'' tk'' hv hk''=>?_⟩
    ·obtain ⟨j,hj,e⟩:=hM.1;exact ⟨j,by lia,e⟩
    ·by_cases hji:j=i
     ·rw [hji];lia
     ·exact hM.2 j (10:)
    ·exact hR v h'' tk'' hv fun b o hbw hbS e=>hk'' b o hbw hbS (hk' b o hbw e)
end
section
variable {prog:Program} {w:World} {A:Around} {E:Value→Shared→Prop} {s:Shared}
theorem GE (a d:Value):argsOk "max" ⟨[a],[(Str.ofString "default", d)]⟩:=by unfold argsOk;kernel_rfl
theorem GF {l:Addr} {xs:List (Int × Tok)} {d:Value} {Q:Value→Shared→Prop} (hh:A.handled=none) (hl:s.heap.IsList l (intItems xs.toArray))
 (h:∀ v h' tk,((xs.length=0∧v=d)∨∃ M t,v=.int M t∧Mx (numAt xs.toArray) xs.length M)→(∀ b o,s.heap.get? b=some o→h'.get? b=some o)→Q v { s with heap:=h',toks:=tk }) :
 wpAny (17:) A (call (.builtin "max") [.ref l] [(Str.ofString "default", d)]) Q E s:=by
 have hname:(toString "max" ++ toString ".loop" : String) = "max.loop" := by decide
 have hsz:(intItems xs.toArray).size=xs.length:=by simp [intItems]
 refine wpAny_call (codeAny_call_builtin F.plain_max F.entry_max ?_)
 have hc:wpAny (17:) A.in1 (Builtin.«max» ⟨[.ref l],[(Str.ofString "default", d)]⟩) (fun fin s'=>match fin with
  | .done f=>(match (Except.ok f:Result) with | .ok (.ret v)=>Q v s' | .ok _=>False | .error e=>E e s')
  | .again c'=>c'.quiet=true∧codeAny (17:) A c' (fun r s'=>match r with | .ok (.ret v)=>Q v s' | .ok _=>False | .error e=>E e s') s') E s:=by
  show wpAny _ A.in1 (Builtin.Builtins.bindParams "max" ["key", "default"] 0 ⟨[],[(Str.ofString "default", d)]⟩ >>= _) _ _ s
  refine wpAny_bind (wpAny_of_eq (show Builtin.Builtins.bindParams "max" ["key", "default"] 0 ⟨[],[(Str.ofString "default", d)]⟩=pure [none,some d] from rfl) ?_)
  refine wpAny_bind (wpAny_pure ?_)
  refine wpAny_bind (iter_intList hl fun s₂ e st hfp hlI=>?_)
  subst e
  refine wpAny_bind (wpAny_newObj_type ?_)
  have hSf:(s.heap.push { cls:=.type "list_iterator", data:=.fields #[.ref l,.int 0 0] }).objs.size ∉ [s.heap.objs.size,l]:=fun hm=>Nat.lt_irrefl _ (hfp _ hm)
  rw [hname]
  have W:=Walks.list (prog:=prog) (w:=w) (A:=A.in1) hh s.heap.objs.size l hlI (intItems xs.toArray)
  refine wpAny_pure ⟨plainId_quiet F.plain_max_loop _,Gz W (numAt xs.toArray) (fun _ _=>intItems_at) d _ hSf _ 0 _ [] 0 rfl (Nat.zero_le _) (W.frame _ _ _ st fun b _ o e=>Heap.get?_push_of_some _ e) (.inl ⟨rfl,rfl⟩) (46:) fun v h' tk hv hk=>?_⟩
  rw [hsz] at hv
  exact h v h' tk hv (old_kept fun b o hb e=>hk b o hb (Nat.ne_of_lt (58:)) (Heap.get?_push_of_some _ e))
 simp only [checkBuiltinCall,F.kind_max]
 cases hsig:Manifest.signature? "max" with
 | none=>exact wpAny_pure hc
 | some sig =>
  have hok:Bind.checkArgs "max" sig ⟨[.ref l],[(Str.ofString "default", d)]⟩=pure ():=by simpa only [argsOk,hsig] using GE (.ref l) d
  simp only [hok]
  exact wpAny_pure hc
end
end L2
namespace L2
open PySem PySem.Spec PyProof.Rows
section
variable {X:Cx} {x:Str} {p pos:Pos} {e:Expr} {es:List Expr} {kws:List Keyword} {t tk:TA} {id:String} {ks:List Str} {r:List V→List V→Hp→VK→Prop}
def LY (X:Cx) (id:String) (ks:List Str) (r:List V→List V→Hp→VK→Prop):Prop :=
 ∀ (pins:List (9:)) (s:Shared) (σ:St) (H:Hp) (vs:List V) (us:List Value) (zs:List V) (ws:List Value) (Q:VK),Inv X pins σ H s→Vals vs us→Vals zs ws→r vs zs H Q→wpAny (6:) X.A (call (.builtin id) us (ks.zip ws)) (EP X pins σ Q) X.xe s
def SD (r:List V→List V→Hp→VK→Prop) (t tk:TA):TE:=fun σ H Q=>t σ H fun vs H1=>tk σ H1 fun zs H2=>r vs zs H2 Q
theorem V5 (hc:LY X id ks r) (hg:Gl X x) (hm:X.mg x=none) (hv:bootBuiltins x=some (.builtin id)) (ha:PA X (e :: es) t) (hkw:PK X kws tk) (hks:(backToKw pos (keywordEach kws X.env)).filterMap (·.1)=ks:=by rfl)
 (hn:x ≠ "__name__" := by decide) (hdb:(41:)=false:=by decide)
 (he:backTo pos (starEach (e :: es) X.env)=(false,eval e X.env) :: backTo pos (starEach es X.env):=by rfl)
 (hpl:(backTo pos (starEach (e :: es) X.env)).any (·.1)=false:=by rfl)
 (hall:(backToKw pos (keywordEach kws X.env)).all (·.1.isSome)=true:=by rfl)
 (hno:(backToKw pos (keywordEach kws X.env)).any (·.1.isNone)=false:=by rfl):PE X (.Call (.Name x p) (e :: es) kws pos) (SD r t tk):=by
 intro pins s σ H Q I h
 refine wpAny_Call_Name_kw (ZU I hg hm hv (callWith_kw ?_ he hpl hall hno) hn hdb)
 refine thn (ha pos pins s σ H _ I h) fun us s1 ⟨vs,H1,I1,r1,q⟩=>thn (hkw pos pins s1 σ H1 _ I1 q) fun ws s2 ⟨zs,H2,I2,r2,q2⟩=>?_
 rw [hks]
 exact hc pins s2 σ H2 vs us zs ws Q I2 r1 r2 q2
theorem GG (hc:X.calm=true):LY X "max" ["default"] (fun vs zs H Q=>∃ l ns d,vs=[.ref l]∧zs=[d]∧SqL X.K H l (ns.map V.int)∧(ns=[]→Q d H)∧∀ M,M ∈ ns→(∀ n ∈ ns,n≤M)→Q (.int M) H):=by
 intro pins s σ H vs us zs ws Q I rv rz h
 obtain ⟨l,ns,d,rfl,rfl,hl,q0,q⟩:=h
 cases rv with
 | cons r rr =>
  cases rr
  cases rz with
  | cons rd rrd =>
   cases rrd
   obtain rfl:_=Value.ref l:=r
   obtain ⟨its,rv,pl,_⟩:=I.list hl
   obtain ⟨ys,rfl,e2⟩:=YA rv
   have hL:s.heap.IsList l (intItems ys.toArray):=by rw [JP];exact pl.isList
   have hlen:ys.length=ns.length:=by rw [← e2];simp
   show wpAny _ _ (call (.builtin "max") [.ref l] [(Str.ofString "default", _)]) _ _ s
   refine GF (I.ok.hd hc) hL fun v h' tk hv hk=>?_
   have I':=I.kept (t':=tk) hk
   rcases hv with ⟨h0,rfl⟩ | ⟨M,t,rfl,⟨j,hj,ej⟩,hM⟩
   ·exact ⟨d,H,I',rd,q0 (List.length_eq_zero_iff.mp (10:))⟩
   ·rw [Lx,e2] at ej
    refine ⟨.int M,H,I',⟨t,rfl⟩,q M ?_ fun n hn=>?_⟩
    ·rw [← ej,List.getD_eq_getElem?_getD,List.getElem?_eq_getElem (10:)]
     exact List.getElem_mem _
    ·obtain ⟨i,hi,rfl⟩:=List.getElem_of_mem hn
     have:=hM i (10:)
     rw [Lx,e2,List.getD_eq_getElem?_getD,List.getElem?_eq_getElem hi] at this
     exact this
end
end L2
namespace L2
open PySem PySem.Spec PyProof.Rows
structure CompG (X:Cx) (xs caps:List Str) (cap:List Nat) (scope:Scope) (cl:List (Str × Addr)):Prop where
 clos:closureFor scope X.env=pure cl
 cell:∀ y ∈ scope.names,y.2≠.cell
 kind:scope.kind=.function
 names:∀ y ∈ scope.names,y.2=.local→scope.names.lookup y.1=some .local
 lx:∀ x ∈ xs,scope.names.lookup x=some .local
 nd:(xs ++ caps).Nodup
 from_:∀ y c,cl.lookup y=some c→X.env.cells.lookup y=some c
 has:∀ y,((relabel scope X.env).names.lookup y=some .cell∨(relabel scope X.env).names.lookup y=some .free)→∃ c,cl.lookup y=some c
 len:cap.length=caps.length
 cps:∀ (i:Nat) (y:Str),caps[i]?=some y→∃ j,cap[i]?=some j∧X.N[j]?=some y∧X.env.scope.names.lookup y=some .cell∧(relabel scope X.env).names.lookup y=some .cell
def XH (cap:List Nat) (σ:St):St:=cap.map fun j=>(σ[j]?).getD none
def J3 (n:Nat) (wi:TI) (cap:List Nat) (g:TG) (tt:TT) (te:TE):TE:=fun σ H Q=>wi σ H fun J H1=>∀ acc,H1 acc=none→∃ W:Nat→Nat→Hp→Prop,(∃ m,W 0 m (upd H1 acc (.lst [])))∧∀ i m H2,W i m H2 →
 (J.stop i H2∧Q (.ref acc) H2)∨(J.go i H2∧∀ x H3,J.yld i H2 x H3→∀ as:St,as.length=n→g x (as ++ XH cap σ) H3 fun σ4 H4=>(∃ bs:St,bs.length=n∧σ4=bs ++ XH cap σ)∧tt σ4 H4 fun ok H5=>if ok=true then
  te σ4 H5 (51:)
  else ∃ m',m' < m∧W (i + 1) m' H5)
theorem Wz {X:Cx} {elt iter tg:Expr} {xs:List Str} {ifs:List Expr} {scope:Scope} {pos pos':Pos} {wi:TI} {g:TG} {tt:TT} {te:TE} {cl:List (Str × Addr)} {caps:List Str} {cap:List Nat}
 (O:CompG X xs caps cap scope cl) (hc:X.calm=true) (hi:PI X tg iter wi) (hg:∀ C fp s₀ H₀,PG (30:) tg g)
 (ht:∀ C fp s₀ H₀,PF (30:) ifs tt)
 (hs:∀ x,foldedSetIterable iter X.env x=pure x) {pins:List (9:)} {s:Shared} {σ:St} {H:Hp} {Q:VK} {use:Option (Value→Sem Unit)} {QQ:Value→Shared→Prop} (I:Inv X pins σ H s)
 (h:J3 xs.length wi cap g tt te σ H Q)
 (hfin:∀ D C H' s',Inv X pins σ H' s'→OwnAt X pins H' s' C→Q (.ref D) H'→compPost (6:) X.A X.xe use QQ (.ref D) C (.ok .next) s')
 (hw:∀ {fp:List Addr} {s3:Shared} {H3:Hp} {D:Value} {p9:List (9:)} {s9:Shared} {σ9:St} {H9:Hp} {Q9:VK},Inv X pins σ H3 s3→(∀ b ∈ fp,(b ∈ X.ex∨X.s₀.heap.objs.size≤b)∧b≠X.env.locals∧(∀ x c,X.env.cells.lookup x=some c→c≠b)∧∀ p ∈ X.pn ++ pins,p.1≠b)→Inv (20:) p9 σ9 H9 s9→te σ9 H9 Q9 →
  wpAny (6:) X.A (eval elt (compEnvC scope cl s3.heap.objs.size X.env)) (EP (20:) p9 σ9 Q9) (notedBy (6:) X.A (compEnvC scope cl s3.heap.objs.size X.env) (fun x s'=>compPost (6:) X.A X.xe use QQ D s3.heap.objs.size (.error x) s')) s9) :
 wpAny (6:) X.A (comprehension (42:) scope X.env pos' (newList []) false (eval iter X.env) use) QQ X.xe s:=by
 refine wpAny_comprehension_free rfl hs O.clos O.kind O.names (thn (hi pins s σ H _ I h) fun v s1 h1=>thn h1 fun itv s2 h2=>?_)
 obtain ⟨it,fp,tn,J,H1,e,I2,T,t0,f2,hR⟩:=h2
 subst e
 refine wpAny_newObj_type (wpAny_newFunctionEnv O.cell (by intro y hy;simp at hy) (fun h₁ hns hsb=>?_) O.kind)
 have hacc:H1 s2.heap.objs.size=none:=I2.fresh
 obtain ⟨W,⟨m0,w0⟩,turn⟩:=hR s2.heap.objs.size hacc
 have I3:Inv X pins σ (upd H1 s2.heap.objs.size (.lst [])) { s2 with heap:=s2.heap.push { cls:=.type "list", data:=.seq ([]:List Value).toArray } }:=I2.lnew (t':=s2.toks) (ys:=[]) (its:=[]) .nil (Nat.zero_le _)
 generalize hs3:({ s2 with heap:=s2.heap.push { cls:=.type "list", data:=.seq ([]:List Value).toArray } }:Shared)=s3 at hns hsb I3 ⊢
 generalize hD:s2.heap.objs.size=D at I3 w0 turn hacc ⊢
 generalize hH3:upd H1 D (.lst [])=H3 at I3 w0
 have keep3:∀ b o,s3.heap.get? b=some o→h₁.get? b=some o:=fun b o e=>(hsb.2 b (Nat.ne_of_lt (58:))).trans (Heap.get?_push_of_some _ e)
 have hfp3:∀ b ∈ fp,H3 b=none:=fun b hb=>by
  rw [← hH3,Qg]
  ·exact (f2 b hb).1
  ·intro z
   obtain ⟨o,e,_⟩:=T.obj _ _ t0 b hb
   exact absurd (58:) (by rw [z,hD];exact Nat.lt_irrefl _)
 have hCfresh:H3 s3.heap.objs.size=none:=I3.fresh
 have hCfp:∀ b ∈ fp,b≠s3.heap.objs.size:=fun b hb z=>by
  obtain ⟨o,e,_⟩:=T.obj _ _ t0 b hb
  have h2:s3.heap.objs.size=s2.heap.objs.size + 1:=by rw [← hs3];exact Heap.size_push ..
  exact absurd (58:) (by rw [z,h2];exact Nat.not_lt.mpr (Nat.le_succ _))
 have t3:tn 0 h₁:=T.keep _ _ _ t0 fun b hb o e=>keep3 b o (by rw [← hs3];exact Heap.get?_push_of_some _ e)
 have ok':(20:).Ok:=by
  refine ⟨I3.ok.mod,O.kind,I3.ok.glob,I3.ok.blt,Nat.le_refl _,fun y z c e1 e2=>I3.ok.inj y z c (O.from_ y c e1) (O.from_ z c e2),fun y hy=>O.has y hy,fun y c z _=>(nomatch z),I3.ok.hd,I3.ok.frames,.inl rfl,fun b hb=>⟨hCfp b hb,fun y c e=>?_⟩,I3.bs,Nat.le_trans I3.ok.bsz I3.sz,fun b o e hb=>?_,fun b hb z=>?_,I3.stack,I3.stkFree⟩
  ·exact (f2 b hb).2.2.2.2.1 y c (O.from_ y c e)
  ·rcases (f2 b hb).2.2.2.1 with q | q
   ·exact I3.ok.noex b o e q
   ·exact absurd (Nat.lt_of_lt_of_le (58:) (Nat.le_trans I3.ok.bsz q)) (Nat.lt_irrefl _)
  ·rcases List.mem_cons.mp (I3.stkSub b z) with q | q
   ·exact (f2 b hb).2.1 q
   ·exact (f2 b hb).2.2.1 q
 have I4:Inv (20:) [] (List.replicate xs.length none ++ XH cap σ) H3 { s3 with heap:=h₁,toks:=s3.toks + ([]:List (Str × Value)).length }:=by
  obtain ⟨m,hn,hl⟩:=id I3.loc
  refine ⟨ok',rfl,I3.bare,Un.kept keep3,⟨_,hns,fun i y v e1 e2 e3=>?_⟩,fun y c e=>?_,hCfresh,fun y c e=>I3.freeC y c (O.from_ y c e),fun p hp=>(nomatch hp),I3.hok.kept keep3,?_⟩
  ·by_cases hix:i < xs.length
   ·rw [List.getElem?_append_left (by rw [List.length_replicate];exact hix),List.getElem?_replicate,if_pos hix] at e2
    cases e2
   ·have e1':caps[i - xs.length]?=some y:=by
     have e1'':(xs ++ caps)[i]?=some y:=e1
     rwa [List.getElem?_append_right (10:)] at e1''
    obtain ⟨j,hj,hN,hk,hk'⟩:=O.cps _ y e1'
    have e2':(σ[j]?).getD none=some v:=by
     rw [List.getElem?_append_right (by rw [List.length_replicate];lia),List.length_replicate] at e2
     unfold XH at e2
     simpa [hj] using e2
    have e2'':σ[j]?=some (some v):=by
     cases q:σ[j]? with
     | none=>rw [q] at e2';cases e2'
     | some a=>rw [q] at e2';exact congrArg some e2'
    obtain ⟨u,r,l⟩:=hl j y v hN e2'' (.inr (.inl hk))
    refine ⟨u,r,?_⟩
    rcases l with ⟨k,_⟩ | ⟨k,c,e,z⟩
    ·have k':X.env.scope.names.lookup y=some .local:=k
     rw [hk] at k';cases k'
    ·obtain ⟨c',hc'⟩:=O.has y (.inl hk')
     have:c'=c:=Option.some.inj ((O.from_ y c' hc').symm.trans e)
     subst this
     refine .inr ⟨.inl hk',c',hc',?_⟩
     obtain ⟨o,ho,hd⟩:=z
     exact ⟨o,keep3 _ _ ho,hd⟩
  ·obtain ⟨v,o,ho,hd⟩:=I3.cell y c (O.from_ y c e)
   exact ⟨v,o,keep3 _ _ ho,hd⟩
  ·show (List.replicate xs.length none ++ XH cap σ).length=(xs ++ caps).length
   simp [XH,O.len]
 have fin:∀ (H':Hp) (σ':St) (s':Shared),Inv (20:) [] σ' H' s'→Q (.ref D) H' →
  compPost (6:) X.A X.xe use QQ (.ref D) s3.heap.objs.size (.ok .next) s':=fun H' σ' s' I' q=>by
  obtain ⟨m,hn,_⟩:=id I'.loc
  have hU:Un (frs X.stack) fp H3 H' s3.heap s'.heap:=I'.base
  have hok2:HOk X.prog X.w H' s'.heap:=I'.hok
  have os':s'.os=s3.os:=I'.os
  have I6:Inv X pins σ H' s':=I3.call' (ch:=fp) os' hU hok2 I'.bare (fun b hb=>⟨(f2 b hb).2.2.2.1,(f2 b hb).2.1,(f2 b hb).2.2.2.2⟩)
  refine hfin D _ H' s' I6 ⟨⟨m,hn⟩,I'.free,Nat.ne_of_gt I3.lt,I3.sz,fun y c e z=>?_,fun p hp z=>?_⟩ q
  ·obtain ⟨v,hv⟩:=I3.cell y c e
   exact absurd hv.lt (by rw [z];exact Nat.lt_irrefl _)
  ·exact absurd (Heap.lt_size (I3.pin p hp).1) (by rw [z];exact Nat.lt_irrefl _)
 have stat:∀ {H':Hp},(∀ b ∈ fp,H' b=none)→∀ b ∈ fp,YC (20:) [] H' b:=fun hn b hb =>
  ⟨hn b hb,hCfp b hb,ok'.exfs b hb,.inl hb,fun y c e=>(f2 b hb).2.2.2.2.1 y c (O.from_ y c e),fun p hp=>(nomatch hp)⟩
 have loop:codeAny (6:) X.A (.compLoop (42:) 0 (.ref it) (.ref D) (compEnvC scope cl s3.heap.objs.size X.env))
  (compPost (6:) X.A X.xe use QQ (.ref D) s3.heap.objs.size) { s3 with heap:=h₁,toks:=s3.toks + ([]:List (Str × Value)).length }:=by
  refine codeAny_loop rfl (fun n s'=>∃ i as H',as.length=xs.length∧Inv (20:) [] (as ++ XH cap σ) H' s'∧tn i s'.heap∧(∀ b ∈ fp,H' b=none)∧W i n H') ?_ m0 ⟨0,_,H3,List.length_replicate,I4,t3,hfp3,w0⟩
  rintro n s5 ⟨i,as,H5,has,I5,st5,fr5,w5⟩
  show wpAny _ _ ((compTurn (42:) 0 (.ref it) (.ref D) (compEnvC scope cl s3.heap.objs.size X.env)).onRaise (fun x=>do noteFrame x (compEnvC scope cl s3.heap.objs.size X.env);theTreesLotGoes x)) _ _ s5
  refine wpAny_noted ?_
  rw [compTurn_list]
  refine wpAny_bind (wpAny_standAt (wpAny_bind ?_))
  have bad:∀ {M:Model} {A:Around} {α:Type} {t:Sem α} {P:α→Shared→Prop} {E':Value→Shared→Prop} {s':Shared},wpAny M A t P (fun _ _=>False) s'→wpAny M A t P E' s':=fun h=>wpAny_mono h (fun _ _ q=>q) fun _ _ z=>z.elim
  rcases turn i n H5 w5 with ⟨stop,qn⟩ | ⟨go,step⟩
  ·refine bad (thn (T.done (20:) rfl rfl rfl hc i [] s5 _ H5 (fun _ _=>False) I5 (stat fr5) st5 stop) fun r s6 ⟨hr,I6⟩=>?_)
   subst hr
   exact wpAny_pure (fin H5 _ s6 I6 qn)
  ·refine bad (thn (T.item (20:) rfl rfl rfl hc i [] s5 _ H5 (fun _ _=>False) I5 (stat fr5) st5 go) fun r s6 ⟨u,hr,h6⟩=>?_)
   subst hr
   refine wpAny_bind (bad (thn h6 fun _ s7 ⟨y,H7,I7,r7,y7,st7,fr7⟩=>?_))
   have I7':=I7.pinned (stat fr7) (T.obj _ _ st7)
   have goal:=step y H7 y7 as has
   refine wpAny_bind (bad (thn (hg s3.heap.objs.size fp s3 H3 _ s7 _ H7 y _ _ I7' r7 goal) fun _ s8 ⟨σ8,H8,I8,⟨bs,hbs,eσ⟩,goal8⟩=>?_))
   subst eσ
   refine wpAny_bind (bad (thn (ht s3.heap.objs.size fp s3 H3 _ s8 _ H8 _ I8 goal8) fun okb s9 ⟨H9,I9,q9⟩=>?_))
   have again:∀ {H10:Hp} {s10:Shared} {m':Nat},Inv (20:) ([] ++ Jj fp s7.heap) (bs ++ XH cap σ) H10 s10→m' < n→W (i + 1) m' H10 →
    ∃ m,m < n∧∃ i as H',as.length=xs.length∧Inv (20:) [] (as ++ XH cap σ) H' s10∧tn i s10.heap∧(∀ b ∈ fp,H' b=none)∧W i m H':=fun {H10 s10 m'} I10 hm w10=>by
    refine ⟨m',hm,i + 1,bs,H10,hbs,I10.unpinned,T.keep _ _ _ st7 fun b hb o e=>(I10.pin (b,o) (List.mem_append_right _ (List.mem_append_right _ (ZY hb e)))).1,fun b hb=>?_,w10⟩
    obtain ⟨o,e,d⟩:=T.obj _ _ st7 b hb
    exact (I10.pin (b,o) (List.mem_append_right _ (List.mem_append_right _ (ZY hb e)))).2.1
   cases okb with
   | false =>
    rw [if_neg Bool.false_ne_true] at q9
    obtain ⟨m',hm,w9⟩:=q9
    exact wpAny_pure ⟨rfl,again I9 hm w9⟩
   | true =>
    rw [if_pos rfl] at q9
    refine wpAny_bind (wpAny_bind (thn (hw I3 (fun b hb=>⟨(f2 b hb).2.2.2.1,(f2 b hb).2.1,(f2 b hb).2.2.2.2⟩) I9 q9) fun yv s10 ⟨yy,H10,I10,r10,ys,hys,hlen,m',hm,w10⟩=>?_))
    refine wpAny_bind (bad (thn (QY (X:=QV X (xs ++ caps) scope cl s3.heap.objs.size fp s3 H3) _ s10 _ H10 (.ref D) [yy] (.ref D) [yv] (fun _ H11=>W (i + 1) m' H11) I10 rfl (.cons r10 .nil) ⟨D,ys,yy,rfl,rfl,hys,hlen,w10⟩) fun _ s11 ⟨_,H11,I11,_,q11⟩=>?_))
    exact wpAny_pure (wpAny_pure ⟨rfl,again I11 hm q11⟩)
 refine codeAny_compStart_list loop (T.self _ 0 _ _ _ t3 loop)
theorem Jl {X:Cx} {elt iter tg:Expr} {xs:List Str} {ifs:List Expr} {scope:Scope} {pos pos':Pos} {wi:TI} {g:TG} {tt:TT} {te:TE} {cl:List (Str × Addr)} {caps:List Str} {cap:List Nat}
 (O:CompG X xs caps cap scope cl) (hc:X.calm=true) (hi:PI X tg iter wi) (hg:∀ C fp s₀ H₀,PG (30:) tg g)
 (ht:∀ C fp s₀ H₀,PF (30:) ifs tt) (he:∀ C fp s₀ H₀,PE (30:) elt te)
 (hs:∀ x,foldedSetIterable iter X.env x=pure x) {pins:List (9:)} {s:Shared} {σ:St} {H:Hp} {Q:VK} {use:Option (Value→Sem Unit)} {QQ:Value→Shared→Prop} (I:Inv X pins σ H s)
 (h:J3 xs.length wi cap g tt te σ H Q)
 (hfin:∀ D C H' s',Inv X pins σ H' s'→OwnAt X pins H' s' C→Q (.ref D) H'→compPost (6:) X.A X.xe use QQ (.ref D) C (.ok .next) s') :
 wpAny (6:) X.A (comprehension (42:) scope X.env pos' (newList []) false (eval iter X.env) use) QQ X.xe s :=
 Wz O hc hi hg ht hs I h hfin fun _ _ I9 q9=>wpAny_mono (he _ _ _ _ _ _ _ _ _ I9 q9) (fun _ _ q=>q) fun _ _ hx=>hx.elim
theorem QP {X:Cx} {elt iter tg:Expr} {xs:List Str} {ifs:List Expr} {scope:Scope} {pos:Pos} {wi:TI} {g:TG} {tt:TT} {te:TE} {cl:List (Str × Addr)} {caps:List Str} {cap:List Nat}
 (O:CompG X xs caps cap scope cl) (hc:X.calm=true) (hi:PI X tg iter wi) (hg:∀ C fp s₀ H₀,PG (30:) tg g)
 (ht:∀ C fp s₀ H₀,PF (30:) ifs tt) (he:∀ C fp s₀ H₀,PE (30:) elt te)
 (hs:∀ x,foldedSetIterable iter X.env x=pure x:=by intro _;rfl) :
 PE X (42:) (J3 xs.length wi cap g tt te):=by
 intro pins s σ H Q I h
 rw [eval_ListComp]
 exact Jl (use:=none) O hc hi hg ht he hs I h fun D C H' s' I' o q=>by
  obtain ⟨m,hn⟩:=o.ns
  exact ⟨m,hn,fun h' hb=>⟨.ref D,H',o.go I' hb,rfl,q⟩⟩
theorem ZV {X:Cx} {elt iter tg:Expr} {xs:List Str} {y:Str} {py:Pos} {ifs:List Expr} {scope:Scope} {pos spos:Pos} {wi:TI} {g:TG} {tt:TT} {te:TE} {cl:List (Str × Addr)} {caps:List Str} {cap:List Nat} {i:Nat}
 (O:CompG X xs caps cap scope cl) (hc:X.calm=true) (hi:PI X tg iter wi) (hg:∀ C fp s₀ H₀,PG (30:) tg g)
 (ht:∀ C fp s₀ H₀,PF (30:) ifs tt) (he:∀ C fp s₀ H₀,PE (30:) elt te)
 (hN:X.N.Nodup) (hy:X.N[i]?=some y) (hl:X.env.scope.names.lookup y=some .local)
 (hsw:swapsWith (42:) (some (.Name y py)) spos.line X.env=pure true:=by rfl)
 (hs:∀ x,foldedSetIterable iter X.env x=pure x:=by intro _;rfl) :
 PS X (.Assign [.Name y py] (42:) spos) (PJ (J3 xs.length wi cap g tt te) (Zd i)):=by
 intro pins s σ H D I h
 rw [exec_Assign_Name_used _ _ _ _ hsw]
 refine wpAny_bind (wpAny_standAt (wpAny_bind ?_))
 show wpAny _ X.A (do let _ ← comprehension (42:) scope X.env _ (newList []) false (eval iter X.env) (some (assign (.Name y py) X.env))) _ _ s
 refine wpAny_bind (thn (Jl (use:=some (assign (.Name y py) X.env)) (QQ:=fun _ s'=>SP X pins D .next s') O hc hi hg ht he hs I h fun Dd C H' s' I' o q=>?_) fun _ s' hq=>wpAny_pure (wpAny_pure hq))
 obtain ⟨m,hn⟩:=o.ns
 show wpAny _ X.A (assign (.Name y py) X.env (.ref Dd)) _ _ s'
 refine wpAny_assign_Name (JA (v:=.ref Dd) I' hN hy (.inl hl) rfl (fun s2 I2 sb=>?_) (.inr hl))
 obtain ⟨a,sb,ha⟩:=sb
 have hCa:C≠a:=by
  rcases ha with z | z
  ·rw [z];exact o.loc
  ·exact Ne.symm (o.cells y a z)
 have o2:OwnAt X pins H' s2 C:=⟨⟨m,hn.sameBut sb hCa⟩,o.free,o.loc,o.above,o.cells,o.pins⟩
 refine ⟨m,hn.sameBut sb hCa,fun h' hb=>?_⟩
 exact ⟨_,H',o2.go I2 hb,q⟩
section
variable {X:Cx} {xs caps:List Str} {cap:List Nat} {scope:Scope} {cl:List (Str × Addr)}
theorem Zo {x:Str} {px:Pos} (O:CompG X [x] caps cap scope cl):∀ C fp s₀ H₀,PG (QV X ([x] ++ caps) scope cl C fp s₀ H₀) (.Name x px) (Zd 0):=fun C fp s₀ H₀ =>
 QC (X:=QV X ([x] ++ caps) scope cl C fp s₀ H₀) (i:=0) O.nd rfl (.inl (lookup_relabel_local (O.lx x (24:)))) (.inr (lookup_relabel_local (O.lx x (24:))))
theorem Wp {x y:Str} {px py pos:Pos} {k:Nat} (O:CompG X [x,y] caps cap scope cl) (hc:X.calm=true):∀ C fp s₀ H₀,PG (QV X ([x,y] ++ caps) scope cl C fp s₀ H₀) (.Tuple [.Name x px,.Name y py] k pos) (Ls X.K 2 (YW (Zd 0) (YW (Zd 1) MX))):=fun C fp s₀ H₀ =>
 UG (X:=QV X ([x,y] ++ caps) scope cl C fp s₀ H₀) hc (Q4 (QC (i:=0) O.nd rfl (.inl (lookup_relabel_local (O.lx x (24:)))) (.inr (lookup_relabel_local (O.lx x (24:)))))
  (Q4 (QC (i:=1) O.nd rfl (.inl (lookup_relabel_local (O.lx y (24:)))) (.inr (lookup_relabel_local (O.lx y (24:))))) YL))
end
theorem JH {k:NameKind} {y:Str}:∀ {l:List (Str × NameKind)},l.lookup y=some k→(y,k) ∈ l
 | [],h=>by simp at h
 | (n,j) :: r,h=>by
  cases hx:y == n with
  | true =>
   simp only [List.lookup_cons,hx] at h
   have:y=n:=by simpa using hx
   cases h
   rw [this];exact List.mem_cons_self
  | false =>
   simp only [List.lookup_cons,hx] at h
   exact List.mem_cons_of_mem _ (JH h)
theorem Jg {y:Str} {c:Addr}:∀ {l:List (Str × Addr)},l.lookup y=some c→(y,c) ∈ l
 | [],h=>by simp at h
 | (n,j) :: r,h=>by
  cases hx:y == n with
  | true =>
   simp only [List.lookup_cons,hx] at h
   have:y=n:=by simpa using hx
   cases h
   rw [this];exact List.mem_cons_self
  | false =>
   simp only [List.lookup_cons,hx] at h
   exact List.mem_cons_of_mem _ (Jg h)
theorem Jq {y:Str} {c:Addr}:∀ {l:List (Str × Addr)},(y,c) ∈ l→∃ c',l.lookup y=some c'
 | [],h=>by cases h
 | (n,j) :: r,h=>by
  cases hx:y == n with
  | true=>exact ⟨j,by simp only [List.lookup_cons,hx]⟩
  | false =>
   simp only [List.lookup_cons,hx]
   rcases List.mem_cons.mp h with z | z
   ·have:y=n:=congrArg Prod.fst z
    rw [this] at hx
    simp at hx
   ·exact Jq z
theorem YE {env:Env} {y:Str} (hf:env.scope.kind=.function) (hy:env.kindOf y=some .cell):∀ {names:List (Str × NameKind)},names.lookup y=some .free →
 (names.map fun (n,k)=>if (k == NameKind.free && env.scope.kind == .function && env.kindOf n == some .cell) then (n,NameKind.cell) else (n,k)).lookup y=some .cell
 | [],h=>by simp at h
 | (n,k) :: r,h=>by
  show List.lookup y ((if (k == NameKind.free && env.scope.kind == .function && env.kindOf n == some .cell)=true then (n,NameKind.cell) else (n,k)) :: _)=_
  cases hx:y == n with
  | true =>
   simp only [List.lookup_cons,hx] at h
   have e:y=n:=by simpa using hx
   cases h
   rw [← e,hf,hy]
   simp
  | false =>
   simp only [List.lookup_cons,hx] at h
   have ih:=YE hf hy h
   split
   ·simp only [List.lookup_cons,hx];exact ih
   ·simp only [List.lookup_cons,hx];exact ih
def Jb (names:List (Str × NameKind)):List Str:=names.filterMap fun z=>if z.2 == NameKind.free then some z.1 else none
theorem Yz {env:Env}:∀ (names:List (Str × NameKind)) (caps:List Str) (cs:List Addr) (acc:List (Str × Addr)),Jb names=caps→caps.map (fun y=>env.cells.lookup y)=cs.map some →
 (forIn names acc fun (x:Str × NameKind) (r:List (Str × Addr))=>(if (x.2 == NameKind.free)=true then do let a ← cellOf env x.1;pure (ForInStep.yield ((x.1,a) :: r)) else pure (ForInStep.yield r):Sem (ForInStep (List (Str × Addr)))))=(pure ((caps.zip cs).reverse ++ acc):Sem (List (Str × Addr)))
 | [],caps,cs,acc,h1,h2=>by
  have:caps=[]:=h1.symm
  subst this
  simp
 | (n,k) :: r,caps,cs,acc,h1,h2=>by
  rw [List.forIn_cons]
  by_cases hk:(k == NameKind.free)=true
  ·have e1:caps=n :: Jb r:=by
    rw [← h1];unfold Jb
    rw [List.filterMap_cons]
    simp only [hk,if_true]
   subst e1
   cases cs with
   | nil=>simp at h2
   | cons c cs =>
    simp only [List.map_cons,List.cons.injEq] at h2
    have hcell:cellOf env n=pure c:=by unfold cellOf;rw [h2.1]
    simp only [hk,if_true,hcell,pure_bind]
    rw [Yz r _ cs ((n,c) :: acc) rfl h2.2]
    simp
  ·have e1:caps=Jb r:=by
    rw [← h1];unfold Jb
    rw [List.filterMap_cons]
    simp only [hk]
    rfl
   subst e1
   simp only [hk,if_false,pure_bind]
   exact Yz r _ cs acc rfl h2
theorem Uo {env:Env} {scope:Scope} {caps:List Str} {cs:List Addr} (hf:Jb scope.names=caps) (hc:caps.map (fun y=>env.cells.lookup y)=cs.map some):closureFor scope env=pure (caps.zip cs).reverse:=by
 have h:=Yz (env:=env) scope.names caps cs [] hf hc
 rw [List.append_nil] at h
 unfold closureFor
 simp only [bind_pure]
 exact h
theorem CompG.many {X:Cx} {xs caps:List Str} {cap:List Nat} {cs:List Addr} {scope:Scope} (hk:scope.kind=.function) (hf:X.env.scope.kind=.function) (hfr:Jb scope.names=caps)
 (hnc:∀ z ∈ scope.names,z.2≠.cell) (hl:∀ y ∈ scope.names,y.2=.local→scope.names.lookup y.1=some .local) (hlx:∀ x ∈ xs,scope.names.lookup x=some .local) (hnd:(xs ++ caps).Nodup)
 (hfl:∀ y ∈ caps,scope.names.lookup y=some .free) (hce:caps.map (fun y=>X.env.scope.names.lookup y)=caps.map fun _=>some .cell) (hcs:caps.map (fun y=>X.env.cells.lookup y)=cs.map some)
 (hN:cap.map (fun j=>X.N[j]?)=caps.map some):CompG X xs caps cap scope (caps.zip cs).reverse:=by
 have hlen:caps.length=cs.length:=by simpa using congrArg List.length hcs
 have at_cs:∀ (i:Nat) (y:Str),caps[i]?=some y→∃ c,cs[i]?=some c∧X.env.cells.lookup y=some c:=fun i y h=>by
  have e:=congrArg (fun l=>l[i]?) hcs
  simp only [List.getElem?_map,h] at e
  cases q:cs[i]? with
  | none=>rw [q] at e;simp at e
  | some c=>rw [q] at e;exact ⟨c,rfl,by simpa using e⟩
 refine ⟨Uo hfr hcs,hnc,hk,hl,hlx,hnd,fun y c h=>?_,fun y h=>?_,?_,fun i y h=>?_⟩
 ·have hm:=Jg h
  rw [List.mem_reverse] at hm
  obtain ⟨i,hi,e⟩:=List.getElem_of_mem hm
  have hi1:i < caps.length:=by rw [List.length_zip] at hi;lia
  have hi2:i < cs.length:=by rw [List.length_zip] at hi;lia
  rw [List.getElem_zip] at e
  obtain ⟨c',e1,e2⟩:=at_cs i caps[i] (List.getElem?_eq_getElem hi1)
  have e3:caps[i]=y:=congrArg Prod.fst e
  have e4:cs[i]=c:=congrArg Prod.snd e
  rw [List.getElem?_eq_getElem hi2,e4] at e1
  cases e1
  rw [← e3];exact e2
 ·have hm:y ∈ caps:=by
   have aux:∀ k:NameKind,(k=.cell∨k=.free)→(relabel scope X.env).names.lookup y=some k→y ∈ caps:=fun k hk h=>by
    have h1:=JH h
    obtain ⟨z,hz,e⟩:=List.mem_map.mp h1
    obtain ⟨n,kk⟩:=z
    have hfree:kk=.free∧n=y:=by
     dsimp only at e
     split at e
     ·rename_i q
      simp only [Bool.and_eq_true] at q
      exact ⟨by simpa using q.1.1,congrArg Prod.fst e⟩
     ·have e2:kk=k:=congrArg Prod.snd e
      refine ⟨?_,congrArg Prod.fst e⟩
      rcases hk with z | z
      ·exact absurd (e2.trans z) (hnc _ hz)
      ·exact e2.trans z
    rw [← hfr]
    refine List.mem_filterMap.mpr ⟨(n,kk),hz,?_⟩
    rw [hfree.1,hfree.2];rfl
   rcases h with h | h
   ·exact aux _ (.inl rfl) h
   ·exact aux _ (.inr rfl) h
  obtain ⟨i,hi,e⟩:=List.getElem_of_mem hm
  have hi2:i < cs.length:=by lia
  refine Jq (c:=cs[i]) ?_
  rw [List.mem_reverse]
  have hiz:i < (caps.zip cs).length:=by rw [List.length_zip];lia
  have:=List.getElem_mem hiz
  rw [List.getElem_zip,e] at this
  exact this
 ·have:=congrArg List.length hN
  simpa using this
 ·have e:=congrArg (fun l=>l[i]?) hN
  simp only [List.getElem?_map,h] at e
  have hm:=List.mem_of_getElem? h
  cases q:cap[i]? with
  | none=>rw [q] at e;simp at e
  | some j =>
   rw [q] at e
   have hcell:X.env.scope.names.lookup y=some .cell:=by
    have e2:=congrArg (fun l=>l[i]?) hce
    simpa only [List.getElem?_map,h,Option.map_some,Option.some.injEq] using e2
   exact ⟨j,rfl,by simpa using e,hcell,YE hf hcell (hfl y hm)⟩
theorem Q6 {J:It} {n N:Nat} {cs:St} {g:TG} {tt:TT} {te:TE} {H1:Hp} {acc:Addr} {Q:Hp→Prop} (Pv:Nat→List V→Hp→Prop) (h0:Pv 0 [] (upd H1 acc (.lst [])))
 (hstop:∀ ys H,Pv N ys H→J.stop N H∧Q H)
 (hstep:∀ i ys H,i < N→Pv i ys H→J.go i H∧∀ x H3,J.yld i H x H3→∀ as:St,as.length=n→g x (as ++ cs) H3 fun σ4 H4=>(∃ bs:St,bs.length=n∧σ4=bs ++ cs)∧tt σ4 H4 fun ok H5=>if ok=true then te σ4 H5 (M7 N Pv acc i (N - i)) else ∃ m',m' < N - i∧Wy N Pv (i + 1) m' H5) :
 ∃ W:Nat→Nat→Hp→Prop,(∃ m,W 0 m (upd H1 acc (.lst [])))∧∀ i m H2,W i m H2 →
  (J.stop i H2∧Q H2)∨(J.go i H2∧∀ x H3,J.yld i H2 x H3→∀ as:St,as.length=n→g x (as ++ cs) H3 fun σ4 H4=>(∃ bs:St,bs.length=n∧σ4=bs ++ cs)∧tt σ4 H4 fun ok H5=>if ok=true then
   te σ4 H5 (51:)
   else ∃ m',m' < m∧W (i + 1) m' H5):=by
 refine ⟨Wy N Pv,⟨N - 0,rfl,Nat.zero_le _,[],h0⟩,?_⟩
 rintro i m H2 ⟨rfl,hi,ys,p⟩
 by_cases h:i < N
 ·exact .inr (hstep i ys H2 h p)
 ·have e:i=N:=by lia
  subst e
  exact .inl (hstop ys H2 p)
abbrev Gc (N:Nat) (Pv:Nat→List V→Hp→Prop) (acc:Addr) (i:Nat) (te:TE) (σ:St):Bool→Hp→Prop:=fun ok H5=>if ok=true then te σ H5 (M7 N Pv acc i (N - i)) else ∃ m',m' < N - i∧Wy N Pv (i + 1) m' H5
abbrev Ja (J:It) (n:Nat) (cs:St) (g:TG) (tt:TT) (te:TE) (H1:Hp) (acc:Addr) (Q:Hp→Prop):Prop :=
 ∃ W:Nat→Nat→Hp→Prop,(∃ m,W 0 m (upd H1 acc (.lst [])))∧∀ i m H2,W i m H2 →
  (J.stop i H2∧Q H2)∨(J.go i H2∧∀ x H3,J.yld i H2 x H3→∀ as:St,as.length=n→g x (as ++ cs) H3 fun σ4 H4=>(∃ bs:St,bs.length=n∧σ4=bs ++ cs)∧tt σ4 H4 fun ok H5=>if ok=true then
   te σ4 H5 (51:)
   else ∃ m',m' < m∧W (i + 1) m' H5)
section
variable {K:PySem.W.Frag} {a b acc:Addr} {xs zs:List V} {tt:TT} {te:TE} {cs:St} {H1:Hp} {Q:Hp→Prop}
theorem Ys (Pv:Nat→List V→Hp→Prop) (h0:Pv 0 [] (upd H1 acc (.lst []))) (hl:∀ i ys H,i≤xs.length→Pv i ys H→SqL K H a xs)
 (hs:∀ i x ys H,i < xs.length→xs[i]?=some x→Pv i ys H→tt (some x :: cs) H (Gc xs.length Pv acc i te (some x :: cs))) (hd:∀ ys H,Pv xs.length ys H→Q H):Ja (Itl K a) 1 cs (Zd 0) tt te H1 acc Q:=by
 refine Q6 Pv h0 (fun ys H p=>⟨⟨xs,hl _ _ _ (7:) p,Nat.le_refl _⟩,hd ys H p⟩) fun i ys H hi p=>⟨⟨xs,xs[i],hl _ _ _ (Nat.le_of_lt hi) p,List.getElem?_eq_getElem hi⟩,?_⟩
 rintro x H3 ⟨rfl,hx⟩ as has
 obtain ⟨a0,rfl⟩ : ∃ a0,as=[a0]:=List.length_eq_one_iff.mp has
 exact ⟨⟨[some x],rfl,rfl⟩,hs i x ys _ hi (hx xs (hl _ _ _ (Nat.le_of_lt hi) p)) p⟩
theorem Mn (Pv:Nat→List V→Hp→Prop) (h0:Pv 0 [] (upd H1 acc (.lst []))) (hl:∀ i ys H,i≤xs.length→Pv i ys H→SqT K H a xs)
 (hs:∀ i x ys H,i < xs.length→xs[i]?=some x→Pv i ys H→tt (some x :: cs) H (Gc xs.length Pv acc i te (some x :: cs))) (hd:∀ ys H,Pv xs.length ys H→Q H):Ja (Itt K a) 1 cs (Zd 0) tt te H1 acc Q:=by
 refine Q6 Pv h0 (fun ys H p=>⟨⟨xs,hl _ _ _ (7:) p,Nat.le_refl _⟩,hd ys H p⟩) fun i ys H hi p=>⟨⟨xs,xs[i],hl _ _ _ (Nat.le_of_lt hi) p,List.getElem?_eq_getElem hi⟩,?_⟩
 rintro x H3 ⟨rfl,hx⟩ as has
 obtain ⟨a0,rfl⟩ : ∃ a0,as=[a0]:=List.length_eq_one_iff.mp has
 exact ⟨⟨[some x],rfl,rfl⟩,hs i x ys _ hi (hx xs (hl _ _ _ (Nat.le_of_lt hi) p)) p⟩
theorem ZI {lo:Int} {n:Nat} (Pv:Nat→List V→Hp→Prop) (h0:Pv 0 [] (upd H1 acc (.lst [])))
 (hs:∀ i ys H,i < n→Pv i ys H→tt (some (.int (lo + i)) :: cs) H (Gc n Pv acc i te (some (.int (lo + i)) :: cs))) (hd:∀ ys H,Pv n ys H→Q H):Ja (Itr lo n) 1 cs (Zd 0) tt te H1 acc Q:=by
 refine Q6 Pv h0 (fun ys H p=>⟨Nat.le_refl _,hd ys H p⟩) fun i ys H hi p=>⟨hi,?_⟩
 rintro x H3 ⟨rfl,rfl⟩ as has
 obtain ⟨a0,rfl⟩ : ∃ a0,as=[a0]:=List.length_eq_one_iff.mp has
 exact ⟨⟨[some _],rfl,rfl⟩,hs i ys _ hi p⟩
theorem J2 {as:St} (h:as.length=2):∃ a0 a1,as=[a0,a1]:=by
 match as,h with
 | [a0,a1],_=>exact ⟨a0,a1,rfl⟩
theorem Xp (Pv:Nat→List V→Hp→Prop) (h0:Pv 0 [] (upd H1 acc (.lst []))) (hl:∀ i ys H,i≤xs.length→Pv i ys H→SqL K H a xs)
 (hs:∀ i x ys H,i < xs.length→xs[i]?=some x→Pv i ys H→∃ p u v,x=.ref p∧SqT K H p [u,v]∧tt (some u :: some v :: cs) H (Gc xs.length Pv acc i te (some u :: some v :: cs))) (hd:∀ ys H,Pv xs.length ys H→Q H):Ja (Itl K a) 2 cs (Ls K 2 (YW (Zd 0) (YW (Zd 1) MX))) tt te H1 acc Q:=by
 refine Q6 Pv h0 (fun ys H p=>⟨⟨xs,hl _ _ _ (7:) p,Nat.le_refl _⟩,hd ys H p⟩) fun i ys H hi p=>⟨⟨xs,xs[i],hl _ _ _ (Nat.le_of_lt hi) p,List.getElem?_eq_getElem hi⟩,?_⟩
 rintro x H3 ⟨rfl,hx⟩ as has
 obtain ⟨a0,a1,rfl⟩:=J2 has
 obtain ⟨q,u,v,rfl,hq,h⟩:=hs i x ys _ hi (hx xs (hl _ _ _ (Nat.le_of_lt hi) p)) p
 exact ⟨q,[u,v],rfl,hq,rfl,u,[v],rfl,v,[],rfl,rfl,⟨[some u,some v],rfl,rfl⟩,h⟩
end
end L2
namespace L2
open PySem PySem.Spec PyProof.Rows
section
variable {κ:Type} [DecidableEq κ]
def Zp (kvs:List (κ × V)) (k:κ):Option V:=(kvs.find? fun kv=>decide (kv.1=k)).map (·.2)
def Yf (kvs:List (κ × V)) (k:κ) (v:V):List (κ × V) :=
 if (kvs.any fun kv=>decide (kv.1=k))=true then kvs.map (fun kv=>if kv.1=k then (kv.1,v) else kv) else kvs ++ [(k,v)]
theorem ZM {p:κ × V} {r:List (κ × V)} {k:κ} (e:p.1=k):Zp (p :: r) k=some p.2:=by simp [Zp,List.find?_cons,e]
theorem Zr {p:κ × V} {r:List (κ × V)} {k:κ} (e:¬ p.1=k):Zp (p :: r) k=Zp r k:=by simp [Zp,List.find?_cons,e]
theorem UZ (k:κ):∀ kvs:List (κ × V),(kvs.any fun kv=>decide (kv.1=k))=(Zp kvs k).isSome
 | []=>rfl
 | p :: r=>by
  rw [List.any_cons]
  by_cases e:p.1=k
  ·simp only [ZM e,decide_eq_true e,Bool.true_or,Option.isSome_some]
  ·rw [Zr e,decide_eq_false e,Bool.false_or];exact UZ k r
theorem Z9 (kvs:List (κ × V)) (k:κ) (v:V):(Yf kvs k v).length≤kvs.length + 1:=by
 unfold Yf
 split
 ·rw [List.length_map];lia
 ·rw [List.length_append,List.length_cons,List.length_nil];lia
theorem M3 {kvs:List (κ × V)} {k:κ} (v:V) (h:Zp kvs k=none):Yf kvs k v=kvs ++ [(k,v)]:=by
 unfold Yf
 rw [UZ,h]
 exact if_neg (27:)
theorem RelO.isSome_eq {o:Option V} {u:Option Value} (r:RelO o u):o.isSome=u.isSome:=by
 cases o with
 | none=>cases u with
  | none=>rfl
  | some _=>exact (show False from r).elim
 | some _=>cases u with
  | none=>exact (show False from r).elim
  | some _=>rfl
theorem RelO.getD {o:Option V} {u:Option Value} {d:V} {d':Value} (r:RelO o u) (rd:RelV d d'):RelV (o.getD d) (u.getD d'):=by
 cases o with
 | none=>cases u with
  | none=>exact rd
  | some _=>exact (show False from r).elim
 | some _=>cases u with
  | none=>exact (show False from r).elim
  | some _=>exact r
theorem KV.val {kvs:List (κ × V)} {vs:List (κ × Value)} (r:KV kvs vs) (k:κ):RelO (Zp kvs k) (valueAt vs k):=by
 unfold KV at r
 induction r with
 | nil=>exact True.intro
 | @cons p q ps qs h t ih =>
  obtain ⟨h1,h2⟩:=h
  by_cases e:p.1=k
  ·have e':q.1=k:=h1.symm.trans e
   have b:valueAt (q :: qs) k=some q.2:=by simp [valueAt,List.find?_cons,e']
   rw [ZM e,b];exact h2
  ·have e':¬ q.1=k:=fun z=>e (h1.trans z)
   have b:valueAt (q :: qs) k=valueAt qs k:=by simp [valueAt,List.find?_cons,e']
   rw [Zr e,b];exact ih
theorem KV.any {kvs:List (κ × V)} {vs:List (κ × Value)} (r:KV kvs vs) (k:κ):(kvs.any fun kv=>decide (kv.1=k))=vs.any fun kv=>decide (kv.1=k):=by
 unfold KV at r
 induction r with
 | nil=>rfl
 | cons h t ih=>rw [List.any_cons,List.any_cons,ih,h.1]
theorem KV.repl {kvs:List (κ × V)} {vs:List (κ × Value)} (r:KV kvs vs) (k:κ) {y:V} {u:Value} (ry:RelV y u) :
 KV (kvs.map fun kv=>if kv.1=k then (kv.1,y) else kv) (vs.map fun kv=>if kv.1=k then (kv.1,u) else kv):=by
 unfold KV at r ⊢
 induction r with
 | nil=>exact .nil
 | @cons p q ps qs h t ih =>
  rw [List.map_cons,List.map_cons]
  refine .cons ?_ ih
  obtain ⟨h1,h2⟩:=h
  by_cases e:p.1=k
  ·rw [if_pos e,if_pos (h1.symm.trans e)];exact ⟨h1,ry⟩
  ·rw [if_neg e,if_neg (fun z=>e (h1.trans z))];exact ⟨h1,h2⟩
theorem KV.put {kvs:List (κ × V)} {vs:List (κ × Value)} (r:KV kvs vs) (k:κ) {y:V} {u:Value} (ry:RelV y u):KV (Yf kvs k y) (stored vs k u):=by
 unfold Yf stored
 rw [r.any k]
 by_cases e:(vs.any fun kv=>decide (kv.1=k))=true
 ·rw [if_pos e,if_pos e];exact r.repl k ry
 ·rw [if_neg e,if_neg e];exact Paired.snoc r ⟨rfl,ry⟩
theorem KV.length {kvs:List (κ × V)} {vs:List (κ × Value)} (r:KV kvs vs):kvs.length=vs.length:=Paired.length r
end
theorem YQ {P:Program} {w:World} {k:Key} {u:Value} (r:RelV (kV k) u):(Qt P w).is k u=true:=by
 cases k with
 | inl i=>obtain ⟨t,e⟩:=(show ∃ t,u=Value.int i t from r);subst e;exact X9 P w i t
 | inr x=>obtain ⟨t,e⟩:=(show ∃ t,u=Value.str x t from r);subst e;exact Wu P w x t
theorem JN {P:Program} {w:World}:∀ {ks:List Key} {us:List Value},Vals (ks.map kV) us→ItemsAre (Qt P w) ks us
 | [],_,r=>by rw [List.map_nil] at r;cases r;exact .nil
 | k :: ks,_,r=>by
  rw [List.map_cons] at r
  cases r with
  | cons h t=>exact .cons (YQ h) (JN t)
abbrev KT (H:Hp):List (List Key × V)→List (List Key × Addr × Value)→Prop:=Paired fun p q=>p.1=q.1∧H q.2.1=some (.tup (p.1.map kV))∧RelV p.2 q.2.2
theorem KT.val {H:Hp} {kvs:List (List Key × V)} {xs:List (List Key × Addr × Value)} (r:KT H kvs xs) (k:List Key):RelO (Zp kvs k) ((atKey xs k).map (·.2)):=by
 induction r with
 | nil=>exact True.intro
 | @cons p q ps qs h t ih =>
  obtain ⟨h1,_,h2⟩:=h
  by_cases e:p.1=k
  ·have e':q.1=k:=h1.symm.trans e
   have b:atKey (q :: qs) k=some q.2:=by simp [atKey,List.find?_cons,e']
   rw [ZM e,b];exact h2
  ·have e':¬ q.1=k:=fun z=>e (h1.trans z)
   have b:atKey (q :: qs) k=atKey qs k:=by simp [atKey,List.find?_cons,e']
   rw [Zr e,b];exact ih
theorem KT.repl {H:Hp} {kvs:List (List Key × V)} {xs:List (List Key × Addr × Value)} (r:KT H kvs xs) (k:List Key) {y:V} {u:Value} (ry:RelV y u) :
 KT H (kvs.map fun kv=>if kv.1=k then (kv.1,y) else kv) (xs.map (putAt k u)):=by
 induction r with
 | nil=>exact .nil
 | @cons p q ps qs h t ih =>
  rw [List.map_cons,List.map_cons]
  refine .cons ?_ ih
  obtain ⟨h1,h2,h3⟩:=h
  unfold putAt
  by_cases e:p.1=k
  ·rw [if_pos e,if_pos (h1.symm.trans e)];exact ⟨h1,h2,ry⟩
  ·rw [if_neg e,if_neg (fun z=>e (h1.trans z))];exact ⟨h1,h2,h3⟩
theorem KT.put {H:Hp} {kvs:List (List Key × V)} {xs:List (List Key × Addr × Value)} (r:KT H kvs xs) (k:List Key) {b:Addr} {y:V} {u:Value} (hb:H b=some (.tup (k.map kV))) (ry:RelV y u) :
 KT H (Yf kvs k y) (storedH xs k b u):=by
 have e:(kvs.any fun kv=>decide (kv.1=k))=(atKey xs k).isSome:=by
  rw [UZ,(r.val k).isSome_eq,Option.isSome_map]
 unfold Yf storedH
 rw [e]
 by_cases q:(atKey xs k).isSome=true
 ·rw [if_pos q,if_pos q];exact r.repl k ry
 ·rw [if_neg q,if_neg q];exact Paired.snoc r ⟨rfl,hb,ry⟩
theorem KT.keeps {H H':Hp} {kvs:List (List Key × V)} {xs:List (List Key × Addr × Value)} (r:KT H kvs xs) (ht:∀ b ys,H b=some (.tup ys)→H' b=some (.tup ys)):KT H' kvs xs :=
 Paired.mapP r fun _ _ z=>⟨z.1,ht _ _ z.2.1,z.2.2⟩
section
variable {P:Program} {w:World} {H:Hp} {h:Heap} {a:Addr}
theorem OA {u:HO} (ok:HOk P w H h) (e:Rd H a u):ObjOk P w H h a u:=e.ok ok
theorem UN {kvs:List (Key × V)} (ok:HOk P w H h) (e:Rd H a (.dK kvs)):kvs.length≤sizeLine∧(a == sysModules)=false∧∃ vs,KV kvs vs∧h.DictOf (Qt P w) a vs :=
 show ObjOk P w H h a (.dK kvs) from OA ok e
theorem JL {kvs:List (Key × V)} (ok:HOk P w H h) (e:H a=some (.dK kvs)):kvs.length≤sizeLine∧(a == sysModules)=false∧∃ vs,KV kvs vs∧h.DictOf (Qt P w) a vs:=UN ok (.inl e)
theorem Y5 {ks:List Key} (ok:HOk P w H h) (e:H a=some (.tup (ks.map kV))):(tupleKind (Qt P w)).is h ks a:=by
 obtain ⟨_,its,r,o,h1,h2,n,h3⟩:=(show ObjOk P w H h a (.tup (ks.map kV)) from ok a _ e)
 exact ⟨o,its.toArray,n,h1,h2,h3,by simpa using JN r⟩
theorem US {kvs:List (List Key × V)} (ok:HOk P w H h) (e:Rd H a (.dT kvs)):kvs.length≤sizeLine∧(a == sysModules)=false ∧
 ∃ xs,KT H kvs xs∧h.DictOfH (tupleKind (Qt P w)) a xs:=by
 obtain ⟨z,y,xs,r,o,es,ep,h1,h2,h3,h4,h5⟩:=(show ObjOk P w H h a (.dT kvs) from OA ok e)
 refine ⟨z,y,xs,r,o,es,ep,h1,h2,h3,h4,fun x hx=>?_,h5⟩
 have all:∀ {l:List (List Key × V)} {m:List (List Key × Addr × Value)},KT H l m→∀ x ∈ m,(tupleKind (Qt P w)).is h x.1 x.2.1:=by
  intro l m q
  induction q with
  | nil=>intro x hx;exact nomatch hx
  | @cons p q ps qs hq t ih =>
   intro x hx
   rcases List.mem_cons.mp hx with e | hx
   ·subst e
    exact Y5 ok (by rw [← hq.1];exact hq.2.1)
   ·exact ih x hx
 exact all r x hx
theorem Rh {kvs:List (List Key × V)} (ok:HOk P w H h) (e:H a=some (.dT kvs)):kvs.length≤sizeLine∧(a == sysModules)=false ∧
 ∃ xs,KT H kvs xs∧h.DictOfH (tupleKind (Qt P w)) a xs:=US ok (.inl e)
end
def DGet (H:Hp) (a:Addr) (y:V) (r:Option V):Prop :=
 (∃ kvs k,Rd H a (.dK kvs)∧y=kV k∧r=Zp kvs k)∨∃ kvs k b,Rd H a (.dT kvs)∧y=.ref b∧H b=some (.tup (k.map kV))∧r=Zp kvs k
def Ru (H:Hp) (a:Addr) (y v:V) (H':Hp):Prop :=
 (∃ kvs k,H a=some (.dK kvs)∧y=kV k∧kvs.length < sizeLine∧H'=upd H a (.dK (Yf kvs k v))) ∨
 ∃ kvs k b,H a=some (.dT kvs)∧y=.ref b∧H b=some (.tup (k.map kV))∧kvs.length < sizeLine∧H'=upd H a (.dT (Yf kvs k v))
theorem DGet.k {H:Hp} {a:Addr} {kvs:List (Key × V)} {k:Key} (e:H a=some (.dK kvs)):DGet H a (kV k) (Zp kvs k):=.inl ⟨kvs,k,.inl e,rfl,rfl⟩
section
variable {X:Cx} {pins:List (9:)} {σ:St} {H:Hp} {s:Shared} {a:Addr} {y v:V} {u r:Value} {o:Option V} {A:Around} {E:Value→Shared→Prop}
theorem Inv.big (I:Inv X pins σ H s):sysModules < s.heap.objs.size:=by
 have h:mainGlobals < s.heap.objs.size:=(I.mod.glob.keeps I.bk).lt
 exact Nat.lt_trans (27:) h
theorem Ga {Q:Value→Shared→Prop} (hu:A.units + 1 < cLine) (I:Inv X pins σ H s) (g:DGet H a y (some v)) (ry:RelV y u) (h:∀ w' s',Inv X pins σ H s'→RelV v w'→Q w' s') :
 wpAny (6:) A (getItem (.ref a) u) Q E s:=by
 rcases g with ⟨kvs,k,e,ey,l⟩ | ⟨kvs,k,b,e,ey,eb,l⟩
 ·subst ey
  obtain ⟨z,hd,vs,rel,dd⟩:=UN I.hok e
  obtain ⟨w',hw,rw'⟩:=RelO.some_of (v:=v) (o:=valueAt vs k) (by rw [l];exact rel.val k)
  exact wpAny_getItem_of (YQ ry) dd.mapOf hw (h w' _ (I.tok _) rw')
 ·subst ey
  cases (show u=Value.ref b from ry)
  obtain ⟨z,hd,xs,rel,dd⟩:=US I.hok e
  obtain ⟨w',hw,rw'⟩:=RelO.some_of (v:=v) (o:=(atKey xs k).map (·.2)) (by rw [l];exact rel.val k)
  obtain ⟨p,hp,hp2⟩:=Option.map_eq_some_iff.mp hw
  refine wpAny_getItem_heap (tupleKind_room_in1 hu) (Y5 I.hok eb) dd hp ?_
  rw [hp2]
  exact h w' _ (I.tok _) rw'
theorem NT {Q:Value→Shared→Prop} (hu:A.units + 1 < cLine) (I:Inv X pins σ H s) (g:DGet H a y o) (ry:RelV y u) (h:∀ s',Inv X pins σ H s'→Q (.bool (!o.isSome)) s') :
 wpAny (6:) A (compareOp .NotIn u (.ref a)) Q E s:=by
 rcases g with ⟨kvs,k,e,ey,l⟩ | ⟨kvs,k,b,e,ey,eb,l⟩
 ·subst ey
  obtain ⟨z,hd,vs,rel,dd⟩:=UN I.hok e
  refine wpAny_notIn_of (YQ ry) hd dd.mapOf ?_
  rw [← (rel.val k).isSome_eq,← l]
  exact h _ (I.tok _)
 ·subst ey
  cases (show u=Value.ref b from ry)
  obtain ⟨z,hd,xs,rel,dd⟩:=US I.hok e
  refine wpAny_notIn_heap (tupleKind_room_in1 hu) (Y5 I.hok eb) hd dd ?_
  have q:=(rel.val k).isSome_eq
  rw [Option.isSome_map] at q
  rw [← q,← l]
  exact h _ (I.tok _)
theorem Xb {h':Heap} {t':Nat} {ob:HO} (I:Inv X pins σ H s) (mu:Mut (H a)) (hs:Heap.SameBut a s.heap h') (he:∃ q,h'.get? a=some q) (new:ObjOk X.prog X.w (upd H a ob) h' a ob) :
 Inv X pins σ (upd H a ob) { s with heap:=h',toks:=t' } :=
 I.write (x:=a) (e:=a) mu (.inl rfl) (fun b q hb z=>(hs.2 b hb).trans z) he new
theorem XG {P:Program} {w:World} {H':Hp} {h':Heap} {kvs:List (Key × V)} {vs:List (Key × Value)} (z:kvs.length≤sizeLine) (hd:(a == sysModules)=false) (rel:KV kvs vs) (dd:h'.DictOf (Qt P w) a vs) :
 ObjOk P w H' h' a (.dK kvs):=⟨z,hd,vs,rel,dd⟩
theorem GN {H':Hp} {Q:Unit→Shared→Prop} (hu:A.units + 1 < cLine) (I:Inv X pins σ H s) (g:Ru H a y v H') (ry:RelV y u) (rv:RelV v r) (h:∀ s',Inv X pins σ H' s'→Q () s') :
 wpAny (6:) A (setItem (.ref a) u r) Q E s:=by
 rcases g with ⟨kvs,k,e,ey,l,eH⟩ | ⟨kvs,k,b,e,ey,eb,l,eH⟩
 ·subst ey eH
  obtain ⟨z,hd,vs,rel,dd⟩:=JL I.hok e
  have hz:vs.length≤sizeLine:=by rw [← rel.length];exact z
  have hl:(Yf kvs k v).length≤sizeLine:=by have:=Z9 kvs k v;lia
  refine wpAny_setItem_pairs (hsz:=hz) (YQ ry) dd fun h' dd' hs=>h _ ?_
  have he:∃ q,h'.get? a=some q:=let ⟨q,_,_,hq,_⟩:=dd';⟨q,hq⟩
  exact Xb I (by rw [e];exact True.intro) hs he (XG hl hd (rel.put k rv) dd')
 ·subst ey eH
  cases (show u=Value.ref b from ry)
  obtain ⟨z,hd,xs,rel,dd⟩:=Rh I.hok e
  have hz:xs.length≤sizeLine:=by rw [← Paired.length rel];exact z
  have hl:(Yf kvs k v).length≤sizeLine:=by have:=Z9 kvs k v;lia
  refine wpAny_setItem_heap (hsz:=hz) (tupleKind_room_in1 hu) (Y5 I.hok eb) dd fun h' dd' hs=>h _ ?_
  obtain ⟨q,es,ep,hq,h2,h3,h4,_,h5⟩:=dd'
  refine Xb I (by rw [e];exact True.intro) hs ⟨q,hq⟩ ⟨hl,hd,_,(rel.put k eb rv).keeps fun c ys ec=>?_,q,es,ep,hq,h2,h3,h4,h5⟩
  rw [Qg (QS ec e (43:))]
  exact ec
end
section
variable {X:Cx} {pins:List (9:)} {σ:St} {H:Hp} {s:Shared} {a:Addr} {kvs:List (Key × V)} {k:Key} {u:Value} {A:Around} {E:Value→Shared→Prop}
end
def RY (i:Expr):Prop:=∀ ov iv,subscripted i false ov iv=operate [ov,iv] (getItem ov iv)
theorem NK {prog:Program} {w:World} {A:Around} {E:Value→Shared→Prop} {s:Shared} {env:Env} {value slice:Expr} {pos:Pos} {T id:String} {Q:Value→Shared→Prop}
 (hl:typeLookup (.type T) "__getitem__" = pure (some (.builtin id))) (hs:RY slice)
 (h:wpAny (17:) A (eval value env) (fun o s₁=>wpAny (17:) A (eval slice env) (fun i s₂=>s₂.TypeIs o T∧wpAny (17:) A (getItem o i) Q E s₂) E s₁) E s) :
 wpAny (17:) A (eval (.Subscript value slice pos) env) Q E s:=by
 refine Subscript_ (wpAny_mono h (fun o s₁ h₁=>wpAny_mono h₁ (fun i s₂ h₂=>?_) fun _ _ x=>x) fun _ _ x=>x)
 obtain ⟨hT,h₂⟩:=h₂
 unfold subscriptTail
 refine wpAny_bind ?_
 rw [getitemInPython_of_ne hT.not_modules]
 refine wpAny_bind (wpAny_specialOf hT hl ?_)
 have fin:wpAny (17:) A (subscripted slice false o i) (fun r s₃=>wpAny (17:) A (letTemporaryGo value o r >>= fun _=>pure r) Q E s₃) E s₂:=by
  rw [hs o i]
  exact wpAny_operating (wpAny_mono h₂ (fun r s₃ h₃=>wpAny_bind (wpAny_letTemporaryGo (wpAny_pure h₃))) fun _ _ x=>x)
 first
  | exact wpAny_pure (wpAny_bind fin)
  | exact wpAny_bind (wpAny_pure (wpAny_bind fin))
  | exact wpAny_bind fin
theorem WC {X:Cx} {pins:List (9:)} {σ:St} {H:Hp} {s:Shared} {a:Addr} {y:V} {o:Option V} (I:Inv X pins σ H s) (g:DGet H a y o):s.TypeIs (.ref a) "dict" := by
 rcases g with ⟨kvs,k,e,_,_⟩ | ⟨kvs,k,b,e,_,_,_⟩
 ·obtain ⟨_,_,vs,_,dd⟩:=UN I.hok e
  exact dd.typeIs
 ·obtain ⟨_,_,xs,_,dd⟩:=US I.hok e
  exact dd.typeIs
def Rz (td ty:TE):TE:=fun σ H Q=>td σ H fun x H1=>ty σ H1 fun y H2=>∃ a v,x=.ref a∧DGet H2 a y (some v)∧Q v H2
def N7 (ty td:TE):TE:=fun σ H Q=>ty σ H fun y H1=>td σ H1 fun x H2=>∃ a o,x=.ref a∧DGet H2 a y o∧Q (.bl (!o.isSome)) H2
def Rk (td ty tv:TE):TS:=fun D σ H=>tv σ H fun v H1=>td σ H1 fun x H2=>ty σ H2 fun y H3=>∃ a H4,x=.ref a∧Ru H3 a y v H4∧D.nx σ H4
section
variable {X:Cx} {o i e value:Expr} {pos pos' tpos:Pos} {td ty tv:TE}
theorem Yl (hu:X.A.units + 1 < cLine) (ho:PE X o td) (hi:PE X i ty) (hs:RY i):PE X (.Subscript o i pos) (Rz td ty):=by
 intro pins s σ H Q I h
 refine NK PySem.F.slot_dict_getitem.lookup hs (thn (ho pins s σ H _ I h) fun u s1 ⟨x,H1,I1,rx,q1⟩=>thn (hi pins s1 σ H1 _ I1 q1) fun iv s2 ⟨y,H2,I2,ry,a,v,ex,g,q2⟩=>?_)
 subst ex
 obtain rfl:u=Value.ref a:=rx
 exact ⟨WC I2 g,Ga hu I2 g ry fun w' s3 I3 rw'=>⟨v,H2,I3,rw',q2⟩⟩
theorem Gg (hu:X.A.units + 1 < cLine) (hi:PE X i ty) (ho:PE X o td):PC X .NotIn i o (N7 ty td):=by
 intro pins s σ H Q I h
 refine thn (hi pins s σ H _ I h) fun iv s1 ⟨y,H1,I1,ry,q1⟩=>thn (ho pins s1 σ H1 _ I1 q1) fun u s2 ⟨x,H2,I2,rx,a,ov,ex,g,q2⟩=>?_
 subst ex
 obtain rfl:u=Value.ref a:=rx
 exact NT hu I2 g ry fun s3 I3=>⟨.bl (!ov.isSome),H2,I3,rfl,q2⟩
theorem Nt (hu:X.A.units + 1 < cLine) (ho:PE X o td) (hi:PE X i ty) (hv:PE X value tv) (hs:swapsWith value (some (.Subscript o i pos')) pos.line X.env=pure false) :
 PS X (.Assign [.Subscript o i pos'] value pos) (Rk td ty tv):=by
 intro pins s σ H D I h
 refine wpAny_Assign_Subscript (thn (hv pins s σ H _ I h) fun r s1 ⟨v,H1,I1,rv,q1⟩=>thn (ho pins s1 σ H1 _ I1 q1) fun u s2 ⟨x,H2,I2,rx,q2⟩=>thn (hi pins s2 σ H2 _ I2 q2) fun iv s3 ⟨y,H3,I3,ry,a,H4,ex,g,q3⟩=>?_) hs
 subst ex
 obtain rfl:u=Value.ref a:=rx
 exact GN hu I3 g ry rv fun s4 I4=>⟨σ,H4,I4,q3⟩
end
theorem Wx {P:Program} {w:World} {H:Hp} (h:Heap) (hb:sysModules < h.objs.size):ObjOk P w H (h.push { cls:=.type "dict", data:=.dict #[] }) h.objs.size (.dK []) :=
 ⟨Nat.zero_le _,beq_eq_false_iff_ne.mpr (Ne.symm (Nat.ne_of_lt hb)),[],.nil,Heap.DictOf.new h⟩
def MQ:TE:=fun _ H Q=>∀ p,H p=none→Q (.ref p) (upd H p (.dK []))
section
variable {X:Cx} {pos:Pos}
theorem GW:PE X (.Dict [] [] pos) MQ:=fun pins s σ H Q I h =>
 wpAny_Dict_empty ⟨.ref s.heap.objs.size,_,I.laid (a:=s.heap.objs.size) (o:=.dK []) (t':=s.toks) (fun _ _ q=>Heap.get?_push_of_some _ q) (7:) (Wx s.heap I.big),rfl,h _ (I.hok.fresh (7:))⟩
end
def WZ:List (TE × TE)→St→Hp→(List (V × V)→Hp→Prop)→Prop
 | [],_,H,Q=>Q [] H
 | (tk,tv) :: r,σ,H,Q=>tk σ H fun x H1=>tv σ H1 fun y H2=>WZ r σ H2 fun ps H3=>Q ((x,y) :: ps) H3
abbrev VV:List (V × V)→List (Value × Value)→Prop:=Paired fun p q=>RelV p.1 q.1∧RelV p.2 q.2
def PPs (X:Cx) (pos:Pos) (keys:List (Option Expr)) (values:List Expr) (trs:List (TE × TE)):Prop :=
 ∀ (pins:List (9:)) (s:Shared) (σ:St) (H:Hp) (Q:List (V × V)→Hp→Prop),Inv X pins σ H s→WZ trs σ H Q →
  wpAny (6:) X.A (evalPairs (pairTrees keys values X.env pos)) (fun vs s'=>∃ ps H',Inv X pins σ H' s'∧VV ps vs∧Q ps H') X.xe s
theorem Np {X:Cx} {pos:Pos}:PPs X pos [] [] []:=fun pins s σ H Q I h=>pairTrees_nil_walk ⟨[],H,I,.nil,h⟩
theorem LL {X:Cx} {pos:Pos} {k v:Expr} {ks:List (Option Expr)} {vs:List Expr} {tk tv:TE} {trs:List (TE × TE)} (hk:PE X k tk) (hv:PE X v tv) (hr:PPs X pos ks vs trs) :
 PPs X pos (some k :: ks) (v :: vs) ((tk,tv) :: trs):=fun pins s σ H Q I h =>
 pairTrees_cons_walk (thn (hk pins s σ H _ I h) fun u s1 ⟨x,H1,I1,rx,q1⟩=>thn (hv pins s1 σ H1 _ I1 q1) fun w2 s2 ⟨y,H2,I2,ry,q2⟩ =>
  thn (hr pins s2 σ H2 _ I2 q2) fun ws s3 ⟨ps,H3,I3,rel,q3⟩=>⟨(x,y) :: ps,H3,I3,.cons ⟨rx,ry⟩ rel,q3⟩)
def Y2 (kvs more:List (Key × V)):List (Key × V):=more.foldl (fun acc kv=>Yf acc kv.1 kv.2) kvs
theorem KV.merge:∀ {more:List (Key × V)} {rs:List (Key × Value)} {kvs:List (Key × V)} {vs:List (Key × Value)},KV more rs→KV kvs vs→KV (Y2 kvs more) (merged vs rs):=by
 intro more rs kvs vs r
 unfold KV at r
 induction r generalizing kvs vs with
 | nil=>intro q;exact q
 | @cons p q ps qs h t ih =>
  intro r0
  have e:KV (Yf kvs p.1 p.2) (stored vs q.1 q.2):=by
   have:=r0.put p.1 h.2
   rw [← h.1];exact this
  exact ih e
theorem Yu:∀ (more kvs:List (Key × V)),(Y2 kvs more).length≤kvs.length + more.length
 | [],kvs=>by show kvs.length≤kvs.length + 0;lia
 | p :: r,kvs=>by
  have h1:=Yu r (Yf kvs p.1 p.2)
  have h2:=Z9 kvs p.1 p.2
  show (Y2 (Yf kvs p.1 p.2) r).length≤_
  rw [List.length_cons];lia
theorem Jd {P:Program} {w:World}:∀ {kvs:List (Key × V)} {ws:List (Value × Value)},VV (kvs.map fun kv=>(kV kv.1,kv.2)) ws→∃ rs,Carries (Qt P w) ws rs∧KV kvs rs
 | [],_,r=>by rw [List.map_nil] at r;cases r;exact ⟨[],True.intro,.nil⟩
 | p :: kvs,_,r=>by
  rw [List.map_cons] at r
  cases r with
  | @cons a b as bs h t =>
   obtain ⟨rs,c,q⟩:=Jd (P:=P) (w:=w) t
   obtain ⟨b1,b2⟩:=b
   exact ⟨(p.1,b2) :: rs,⟨YQ h.1,rfl,c⟩,.cons ⟨rfl,h.2⟩ q⟩
def RD (trs:List (TE × TE)):TE:=fun σ H Q=>∀ p,H p=none→WZ trs σ (upd H p (.dK [])) fun ps H2=>H2 p=some (.dK [])∧∃ kvs:List (Key × V),ps=kvs.map (fun kv=>(kV kv.1,kv.2))∧kvs.length≤15∧Q (.ref p) (upd H2 p (.dK (Y2 [] kvs)))
theorem Nk {X:Cx} {pos:Pos} {keys:List (Option Expr)} {values:List Expr} {trs:List (TE × TE)} (h:PPs X pos keys values trs) (hall:keys.all (·.isSome)=true) (hl:keys.length=values.length) (h0:keys≠[])
 (h15:keys.length≤15):PE X (.Dict keys values pos) (RD trs):=by
 intro pins s σ H Q I q
 have hn:=I.hok.fresh (Nat.le_refl s.heap.objs.size)
 have I1:=I.laid (a:=s.heap.objs.size) (o:=.dK []) (h':=s.heap.push { cls:=.type "dict", data:=.dict #[] }) (t':=s.toks) (fun _ _ q=>Heap.get?_push_of_some _ q) (7:) (Wx s.heap I.big)
 refine wpAny_Dict_walk (knd:=Qt X.prog X.w) hall hl h0 h15 (thn (h pins _ σ _ _ I1 (q _ hn)) fun ws s2 ⟨ps,H2,I2,rel,e,kvs,ep,lk,q2⟩=>?_)
 subst ep
 obtain ⟨rs,c,rk⟩:=Jd (P:=X.prog) (w:=X.w) rel
 obtain ⟨z,hd,vs0,r0,dd⟩:=JL I2.hok e
 cases r0
 refine ⟨rs,c,dd,fun h' dd' hs=>⟨.ref s.heap.objs.size,_,?_,rfl,q2⟩⟩
 have hz:(Y2 [] kvs).length≤sizeLine:=by
  have h1:=Yu kvs []
  rw [List.length_nil] at h1
  rw [sizeLine_eq];lia
 have he:∃ q,h'.get? s.heap.objs.size=some q:=let ⟨q,_,_,hq,_⟩:=dd';⟨q,hq⟩
 exact Xb I2 (by rw [e];exact True.intro) hs he (XG hz hd (rk.merge .nil) dd')
structure M1 (X:Cx) (o:Expr) (m:Str) (apos:Pos) (e:Expr) (cpos:Pos):Prop where
 base:attributeBase o m X.env (eval o X.env)=eval o X.env
 few:((backTo cpos (starEach [e] X.env)).all (fun x=>!x.1) && (backToKw cpos (keywordEach [] X.env)).all (fun x=>x.1.isSome)
  && decide (([e]:List Expr).length + ([]:List Keyword).length + (if ([]:List Keyword).isEmpty then 0 else 1) < 30))=true
 line:(apos.endLine == cpos.line)=true
 trees:backTo cpos (starEach [e] X.env)=[(false,eval e X.env)]
structure M2 (X:Cx) (o:Expr) (m:Str) (apos:Pos) (e f:Expr) (cpos:Pos):Prop where
 base:attributeBase o m X.env (eval o X.env)=eval o X.env
 few:((backTo cpos (starEach [e,f] X.env)).all (fun x=>!x.1) && (backToKw cpos (keywordEach [] X.env)).all (fun x=>x.1.isSome)
  && decide (([e,f]:List Expr).length + ([]:List Keyword).length + (if ([]:List Keyword).isEmpty then 0 else 1) < 30))=true
 line:(apos.endLine == cpos.line)=true
 trees:backTo cpos (starEach [e,f] X.env)=[(false,eval e X.env),(false,eval f X.env)]
def IsD (H:Hp) (a:Addr):Prop:=(∃ kvs,Rd H a (.dK kvs))∨∃ kvs,Rd H a (.dT kvs)
theorem MC {X:Cx} {pins:List (9:)} {σ:St} {H:Hp} {s:Shared} {a:Addr} (I:Inv X pins σ H s) (d:IsD H a) :
 s.TypeIs (.ref a) "dict" ∧ (∀ b,Value.ref a=.ref b→∃ ob,s.heap.get? b=some ob∧ob.dict=none)∧(a == sysModules)=false:=by
 rcases d with ⟨kvs,e⟩ | ⟨kvs,e⟩
 ·obtain ⟨_,hd,vs,_,dd⟩:=UN I.hok e
  refine ⟨dd.typeIs,fun b q=>?_,hd⟩
  cases q
  obtain ⟨ob,_,_,h1,h2,_⟩:=dd
  exact ⟨ob,h1,h2.2.1⟩
 ·obtain ⟨_,hd,xs,_,dd⟩:=US I.hok e
  refine ⟨dd.typeIs,fun b q=>?_,hd⟩
  cases q
  obtain ⟨ob,_,_,h1,h2,_⟩:=dd
  exact ⟨ob,h1,h2.2.1⟩
section
variable {X:Cx} {pins:List (9:)} {σ:St} {H:Hp} {s:Shared} {a:Addr} {y d:V} {u r:Value} {o:Option V} {A:Around} {E:Value→Shared→Prop}
theorem O6 {Q:Value→Shared→Prop} (hu:A.units + 1 < cLine) (I:Inv X pins σ H s) (g:DGet H a y o) (ry:RelV y u) (h:∀ w' s',Inv X pins σ H s'→RelV (o.getD .non) w'→Q w' s') :
 wpAny (6:) A (call (.builtin "dict.get") [.ref a,u]) Q E s:=by
 rcases g with ⟨kvs,k,e,ey,l⟩ | ⟨kvs,k,b,e,ey,eb,l⟩
 ·subst ey
  obtain ⟨z,hd,vs,rel,dd⟩:=UN I.hok e
  refine call_meetsIn PySem.F.slot_dict_get dd.typeIs PySem.F.entry_dict_get (PySem.F.args_dict_get_2 _ _) (meets_dict_get (Qt X.prog X.w) a (YQ ry) hd) ⟨_,dd.mapOf,h _ _ (I.tok _) ?_⟩
  rw [l]
  exact (rel.val k).getD rfl
 ·subst ey
  cases (show u=Value.ref b from ry)
  obtain ⟨z,hd,xs,rel,dd⟩:=US I.hok e
  refine call_meetsIn PySem.F.slot_dict_get dd.typeIs PySem.F.entry_dict_get (PySem.F.args_dict_get_2 _ _) (meetsH_dict_get (tupleKind (Qt X.prog X.w)) a b hd) ⟨tupleKind_room_in1 hu,k,xs,Y5 I.hok eb,dd,h _ _ (I.tok _) ?_⟩
  rw [l]
  exact (rel.val k).getD rfl
theorem PM {Q:Value→Shared→Prop} (hu:A.units + 1 < cLine) (I:Inv X pins σ H s) (g:DGet H a y o) (ry:RelV y u) (rd:RelV d r) (h:∀ w' s',Inv X pins σ H s'→RelV (o.getD d) w'→Q w' s') :
 wpAny (6:) A (call (.builtin "dict.get") [.ref a,u,r]) Q E s:=by
 rcases g with ⟨kvs,k,e,ey,l⟩ | ⟨kvs,k,b,e,ey,eb,l⟩
 ·subst ey
  obtain ⟨z,hd,vs,rel,dd⟩:=UN I.hok e
  refine call_meetsIn PySem.F.slot_dict_get dd.typeIs PySem.F.entry_dict_get (PySem.F.args_dict_get_3 _ _ _) (meets_dict_get_default (Qt X.prog X.w) a (YQ ry) hd r) ⟨_,dd.mapOf,h _ _ (I.tok _) ?_⟩
  rw [l]
  exact (rel.val k).getD rd
 ·subst ey
  cases (show u=Value.ref b from ry)
  obtain ⟨z,hd,xs,rel,dd⟩:=US I.hok e
  refine call_meetsIn PySem.F.slot_dict_get dd.typeIs PySem.F.entry_dict_get (PySem.F.args_dict_get_3 _ _ _) (meetsH_dict_get_default (tupleKind (Qt X.prog X.w)) a b hd r) ⟨tupleKind_room_in1 hu,k,xs,Y5 I.hok eb,dd,h _ _ (I.tok _) ?_⟩
  rw [l]
  exact (rel.val k).getD rd
end
def OF (td ty:TE):TE:=fun σ H Q=>td σ H fun x H1=>∃ a,x=.ref a∧IsD H1 a∧ty σ H1 fun y H2=>∃ o,DGet H2 a y o∧Q (o.getD .non) H2
def O7 (td ty tx:TE):TE:=fun σ H Q=>td σ H fun x H1=>∃ a,x=.ref a∧IsD H1 a∧ty σ H1 fun y H2=>tx σ H2 fun z H3=>∃ o,DGet H3 a y o∧Q (o.getD z) H3
section
variable {X:Cx} {o e f:Expr} {apos cpos:Pos} {td ty tx:TE}
theorem G4 (hu:X.A.units + 1 < cLine) (ho:PE X o td) (he:PE X e ty) (m:M1 X o "get" apos e cpos):PE X (.Call (.Attribute o "get" apos) [e] [] cpos) (OF td ty):=by
 intro pins s σ H Q I h
 refine wpAny_Call_method m.base m.few m.line PySem.F.plainAttrs_dict PySem.F.slot_dict_get PySem.F.type_dict_get (thn (ho pins s σ H _ I h) fun u s1 ⟨x,H1,I1,rx,a,ex,d,q1⟩=>?_)
 subst ex
 obtain rfl:u=Value.ref a:=rx
 obtain ⟨t1,t2,_⟩:=MC I1 d
 refine ⟨t1,t2,?_⟩
 rw [m.trees]
 refine Calls.callWith_builtin rfl (Calls.evalArgs_plain (Calls.spliced_cons (thn (he pins s1 σ H1 _ I1 q1) fun iv s2 ⟨y,H2,I2,ry,ov,g,q2⟩=>Calls.spliced_nil ?_)))
 exact O6 hu I2 g ry fun w' s3 I3 rw'=>⟨_,H2,I3,rw',q2⟩
theorem Mr (hu:X.A.units + 1 < cLine) (ho:PE X o td) (he:PE X e ty) (hf:PE X f tx) (m:M2 X o "get" apos e f cpos):PE X (.Call (.Attribute o "get" apos) [e,f] [] cpos) (O7 td ty tx):=by
 intro pins s σ H Q I h
 refine wpAny_Call_method m.base m.few m.line PySem.F.plainAttrs_dict PySem.F.slot_dict_get PySem.F.type_dict_get (thn (ho pins s σ H _ I h) fun u s1 ⟨x,H1,I1,rx,a,ex,d,q1⟩=>?_)
 subst ex
 obtain rfl:u=Value.ref a:=rx
 obtain ⟨t1,t2,_⟩:=MC I1 d
 refine ⟨t1,t2,?_⟩
 rw [m.trees]
 refine Calls.callWith_builtin rfl (Calls.evalArgs_plain (Calls.spliced_cons (thn (he pins s1 σ H1 _ I1 q1) fun iv s2 ⟨y,H2,I2,ry,q2⟩ =>
  Calls.spliced_cons (thn (hf pins s2 σ H2 _ I2 q2) fun fv s3 ⟨z,H3,I3,rz,ov,g,q3⟩=>Calls.spliced_nil ?_))))
 exact PM hu I3 g ry rz fun w' s4 I4 rw'=>⟨_,H3,I4,rw',q3⟩
end
section
variable {X:Cx} {pins:List (9:)} {σ:St} {H:Hp} {s:Shared} {a:Addr} {kvs:List (Key × V)} {A:Around} {E:Value→Shared→Prop}
end
section
variable {X:Cx} {pins:List (9:)} {σ:St} {H:Hp} {s:Shared} {a:Addr} {y:V} {u:Value} {A:Around} {E:Value→Shared→Prop}
end
end L2
namespace Srt
open PySem PySem.W PyProof.Rows
variable {α β:Type} {O:KeyOrd} {key:Nat→O.α} {n:Nat}
def Ok (O:KeyOrd) (key:Nat→O.α) (n:Nat) (Q:α→Prop):KasT α→Prop
 | .ret a=>Q a
 | .ask i j k=>i < n∧j < n∧Ok O key n Q (k (O.blt (key i) (key j)))
theorem Ok.bind {t:KasT α} {f:α→KasT β} {Q:β→Prop}:Ok O key n (fun a=>Ok O key n Q (f a)) t→Ok O key n Q (t.bind f):=by
 induction t with
 | ret a=>exact id
 | ask i j k ih=>exact fun h=>⟨h.1,h.2.1,ih _ h.2.2⟩
theorem Ok.wp {cmp:Nat→Nat→(Bool→Shared→Prop)→Shared→Prop} {s:Shared} (hc:∀ i j C,i < n→j < n→C (O.blt (key i) (key j)) s→cmp i j C s) {G:α→Shared→Prop} {Q:α→Prop} (hq:∀ a,Q a→G a s) {t:KasT α}:Ok O key n Q t→t.kasWp cmp G s:=by
 induction t with
 | ret a=>exact hq a
 | ask i j k ih=>exact fun h=>hc i j _ h.1 h.2.1 (ih _ h.2.2)
def Pm (n:Nat) (p:Array Nat):Prop:=p.toList.Perm (List.range n)
theorem Pm.size {p:Array Nat} (h:Pm n p):p.size=n:=by
 have:=h.length_eq
 simpa using this
theorem Pm.lt {p:Array Nat} (h:Pm n p) {i:Nat} (hi:i < n):p.getD i 0 < n:=by
 have hs:i < p.size:=by rw [h.size];exact hi
 have e:p.getD i 0=p[i]:=by simp [Array.getD,hs]
 rw [e]
 have:p[i] ∈ p.toList:=by simp
 exact List.mem_range.mp (h.mem_iff.mp this)
theorem Pm.of {p q:Array Nat} (h:Pm n p) (e:q.Perm p):Pm n q:=(Array.perm_iff_toList_perm.mp e).trans h
variable (key) in
def kk (p:Array Nat) (i:Nat):O.α:=key (p.getD i 0)
theorem Ye {p q:Array Nat} {i j:Nat} (h:p[i]?=q[j]?):kk key p i=kk key q j:=by
 unfold kk
 rw [Array.getD_eq_getD_getElem?,Array.getD_eq_getD_getElem?,h]
variable (key) in
def Up (p:Array Nat) (k:Nat):Prop:=∀ i j,i≤j→j < k→O.kle (kk key p i) (kk key p j)
variable (key) in
def GC (p:Array Nat) (k:Nat):Prop:=∀ i j,i≤j→j < k→O.kle (kk key p j) (kk key p i)
theorem WN {p:Array Nat} {i j:Nat} (hj:j≤p.size) (k:Nat):kk key (kas_rev p i j) k=if i≤k∧k < j then kk key p (i + j - 1 - k) else kk key p k:=by
 have e:=getElem?_mirror_all (xs:=p) (i:=i) hj k
 unfold kas_rev
 by_cases h:i≤k∧k < j
 ·rw [if_pos h] at e ⊢;exact Ye e
 ·rw [if_neg h] at e ⊢;exact Ye e
theorem Jp {p:Array Nat} {i j:Nat} (hj:j≤p.size) (heq:∀ k,i≤k→k < j→kk key p k=kk key p (j - 1)) (k:Nat):kk key (kas_rev p i j) k=kk key p k:=by
 rw [WN hj]
 by_cases h:i≤k∧k < j
 ·rw [if_pos h,heq _ (10:) (10:),heq k h.1 h.2]
 ·rw [if_neg h]
theorem Pm.rev {p:Array Nat} (h:Pm n p) (i j:Nat):Pm n (kas_rev p i j):=h.of (mirror_perm _ _ _ _)
theorem No {p:Array Nat} {m:Nat} (h1:1≤m) (hs:Up key p m) (h:O.kle (kk key p (m - 1)) (kk key p m)):Up key p (m + 1):=fun i j hij hj=>by
 by_cases hjm:j < m
 ·exact hs i j hij hjm
 ·have:j=m:=by lia
  subst this
  by_cases hi:i=j
  ·subst hi;exact KeyOrd.kle_refl _
  ·exact KeyOrd.kle_trans (hs i (j - 1) (10:) (10:)) h
theorem Yr {p:Array Nat} {m:Nat} (h1:1≤m) (hs:GC key p m) (h:O.kle (kk key p m) (kk key p (m - 1))):GC key p (m + 1):=fun i j hij hj=>by
 by_cases hjm:j < m
 ·exact hs i j hij hjm
 ·have:j=m:=by lia
  subst this
  by_cases hi:i=j
  ·subst hi;exact KeyOrd.kle_refl _
  ·exact KeyOrd.kle_trans h (hs i (j - 1) (10:) (10:))
theorem W3 {p:Array Nat} (hP:Pm n p) {Q:Nat→Prop}:∀ (f m:Nat),1≤m→m + f≤n→Up key p m→(∀ m',m≤m'→m'≤m + f→Up key p m'→(m'=m + f∨O.klt (kk key p m') (kk key p (m' - 1)))→Q m')→Ok O key n Q (kas_asc p f m)
 | 0,m,_,_,hs,h=>h m (7:) (7:) hs (.inl rfl)
 | f + 1,m,h1,hn,hs,h=>by
  refine ⟨hP.lt (10:),hP.lt (10:),?_⟩
  show Ok O key n Q (if O.blt (kk key p m) (kk key p (m - 1))=true then .ret m else kas_asc p f (m + 1))
  cases hb:O.blt (kk key p m) (kk key p (m - 1)) with
  | true =>
   rw [if_pos rfl]
   exact h m (7:) (10:) hs (.inr hb)
  | false =>
   rw [if_neg Bool.false_ne_true]
   exact W3 hP f (m + 1) (10:) (10:) (No h1 hs hb) fun m' a b c d=>h m' (10:) (10:) c (by rcases d with d | d;exact .inl (10:);exact .inr d)
variable (key) in
def O3 (p:Array Nat) (m q:Nat):Prop:=q + 1≤m∧∀ i,m - (q + 1)≤i→i < m→kk key p i=kk key p (m - 1)
theorem UD {Q:Array Nat × Nat × Nat→Prop}:∀ (f:Nat) (p:Array Nat) (m q:Nat),Pm n p→1≤m→m + f≤n→GC key p m→O3 key p m q →
 (∀ p' m' q',Pm n p'→m≤m'→m'≤m + f→GC key p' m'→O3 key p' m' q'→Q (p',m',q'))→Ok O key n Q (kas_desc f p m q)
 | 0,p,m,q,hP,_,_,hs,ht,h=>h p m q hP (7:) (7:) hs ht
 | f + 1,p,m,q,hP,h1,hn,hs,ht,h=>by
  have hsz:=hP.size
  refine ⟨hP.lt (10:),hP.lt (10:),?_⟩
  show Ok O key n Q (if O.blt (kk key p m) (kk key p (m - 1))=true then (if q > 0 then kas_desc f (kas_rev p (m - (q + 1)) m) (m + 1) 0 else kas_desc f p (m + 1) 0)
   else .ask (p.getD (m - 1) 0) (p.getD m 0) fun d=>if d=true then .ret (p,m,q) else kas_desc f p (m + 1) (q + 1))
  have one:∀ p':Array Nat,O3 key p' (m + 1) 0:=fun p'=>⟨by lia,fun i a b=>by congr 1;lia⟩
  cases hb:O.blt (kk key p m) (kk key p (m - 1)) with
  | true =>
   rw [if_pos rfl]
   have hd:=Yr h1 hs (KeyOrd.kle_of_klt hb)
   by_cases hq:q > 0
   ·rw [if_pos hq]
    have e:=Jp (key:=key) (p:=p) (i:=m - (q + 1)) (j:=m) (10:) ht.2
    refine UD f _ (m + 1) 0 (hP.rev _ _) (10:) (10:) (fun i j a b=>by rw [e,e];exact hd i j a b) (one _) fun p' m' q' a b c d g=>h p' m' q' a (10:) (10:) d g
   ·rw [if_neg hq]
    exact UD f p (m + 1) 0 hP (10:) (10:) hd (one _) fun p' m' q' a b c d g=>h p' m' q' a (10:) (10:) d g
  | false =>
   rw [if_neg Bool.false_ne_true]
   refine ⟨hP.lt (10:),hP.lt (10:),?_⟩
   show Ok O key n Q (if O.blt (kk key p (m - 1)) (kk key p m)=true then .ret (p,m,q) else kas_desc f p (m + 1) (q + 1))
   cases hc:O.blt (kk key p (m - 1)) (kk key p m) with
   | true =>
    rw [if_pos rfl]
    exact h p m q hP (7:) (10:) hs ht
   | false =>
    rw [if_neg Bool.false_ne_true]
    have he:kk key p m=kk key p (m - 1):=KeyOrd.kle_antisymm hc hb
    refine UD f p (m + 1) (q + 1) hP (10:) (10:) (Yr h1 hs hc) ⟨by have:=ht.1;lia,fun i a b=>?_⟩ fun p' m' q' a b c d g=>h p' m' q' a (10:) (10:) d g
    rw [Nat.add_sub_cancel]
    by_cases hi:i=m
    ·rw [hi]
    ·rw [he];exact ht.2 i (10:) (10:)
theorem Vj {p:Array Nat} {m:Nat} (hP:Pm n p) (h1:1≤m) (hm:m≤n) (hs:GC key p m) {Q:Nat × Array Nat→Prop} (h:∀ m' p',Pm n p'→1≤m'→m'≤n→Up key p' m'→Q (m',p')):Ok O key n Q (kas_tail3 m n p):=by
 have hsz:=hP.size
 refine Ok.bind (W3 (hP.rev 0 m) (n - m) m h1 (10:) (fun i j hij hj=>?_) fun m' a b c _=>h m' _ (hP.rev 0 m) (10:) (10:) c)
 rw [WN (10:),WN (10:),if_pos (10:),if_pos (10:)]
 exact hs _ _ (10:) (10:)
theorem Ug {p:Array Nat} {m:Nat} (hP:Pm n p) (h1:1≤m) (hm:m + 1≤n) (hs:GC key p (m + 1)) {Q:Nat × Array Nat→Prop} (h:∀ m' p',Pm n p'→1≤m'→m'≤n→Up key p' m'→Q (m',p')):Ok O key n Q (kas_descPart m n p):=by
 refine Ok.bind (UD (n - (m + 1)) p (m + 1) 0 hP (10:) (10:) hs ⟨by lia,fun i a b=>by congr 1;lia⟩ fun p' m' q' a b c d g=>?_)
 have hsz:=a.size
 show Ok O key n Q (if q' > 0 then kas_tail3 m' n (kas_rev p' (m' - (q' + 1)) m') else kas_tail3 m' n p')
 by_cases hq:q' > 0
 ·rw [if_pos hq]
  have e:=Jp (key:=key) (p:=p') (i:=m' - (q' + 1)) (j:=m') (10:) g.2
  exact Vj (a.rev _ _) (10:) (10:) (fun i j x y=>by rw [e,e];exact d i j x y) h
 ·rw [if_neg hq]
  exact Vj a (10:) (10:) d h
theorem Mv {p:Array Nat} (hP:Pm n p) (h1:1≤n) {Q:Nat × Array Nat→Prop} (h:∀ m' p',Pm n p'→1≤m'→m'≤n→Up key p' m'→Q (m',p')):Ok O key n Q (kas_count n p):=by
 have hsz:=hP.size
 refine Ok.bind (W3 hP (n - 1) 1 (7:) (10:) (fun i j a b=>?_) fun m a b c d=>?_)
 ·have:i=j:=by lia
  subst this;exact KeyOrd.kle_refl _
 ·show Ok O key n Q (if (m == n)=true then .ret (m,p) else if m > 1 then .ask (p.getD 0 0) (p.getD (m - 1) 0) fun c=>if c=true then .ret (m,p) else kas_descPart m n (kas_rev p 0 m) else kas_descPart m n p)
  by_cases hm:m=n
  ·rw [if_pos (by simpa using hm)]
   exact h m p hP a (10:) c
  ·rw [if_neg (by simpa using hm)]
   have hlt:O.klt (kk key p m) (kk key p (m - 1)):=by
    rcases d with d | d
    ·exact absurd (10:) hm
    ·exact d
   by_cases hg:m > 1
   ·rw [if_pos hg]
    refine ⟨hP.lt (10:),hP.lt (10:),?_⟩
    show Ok O key n Q (if O.blt (kk key p 0) (kk key p (m - 1))=true then .ret (m,p) else kas_descPart m n (kas_rev p 0 m))
    cases hb:O.blt (kk key p 0) (kk key p (m - 1)) with
    | true =>
     rw [if_pos rfl]
     exact h m p hP a (10:) c
    | false =>
     rw [if_neg Bool.false_ne_true]
     have hall:∀ k,0≤k→k < m→kk key p k=kk key p (m - 1):=fun k _ hk =>
      KeyOrd.kle_antisymm (c k (m - 1) (10:) (10:)) (KeyOrd.kle_trans hb (c 0 k (10:) hk))
     have e:=Jp (key:=key) (p:=p) (i:=0) (j:=m) (10:) hall
     refine Ug (hP.rev _ _) (10:) (10:) (Yr (10:) (fun i j x y=>?_) ?_) h
     ·rw [e,e,hall i (10:) (10:),hall j (10:) y];exact KeyOrd.kle_refl _
     ·rw [e,e];exact KeyOrd.kle_of_klt hlt
   ·rw [if_neg hg]
    have:m=1:=by lia
    subst this
    refine Ug hP (7:) (10:) (Yr (7:) (fun i j x y=>?_) (KeyOrd.kle_of_klt hlt)) h
    have:i=j:=by lia
    subst this;exact KeyOrd.kle_refl _
theorem UF {p:Array Nat} {k:Nat} (hP:Pm n p) (hk:k < n) (hs:Up key p k) {Q:Nat→Prop}
 (h:∀ l,l≤k→(∀ i,i < l→O.kle (kk key p i) (kk key p k))→(∀ i,l≤i→i < k→O.klt (kk key p k) (kk key p i))→Q l):∀ (f l r:Nat),l≤r→r≤k→r - l≤f →
  (∀ i,i < l→O.kle (kk key p i) (kk key p k))→(∀ i,r≤i→i < k→O.klt (kk key p k) (kk key p i))→Ok O key n Q (kas_place p k f l r)
 | 0,l,r,a,b,c,d,e=>by
  have:l=r:=by lia
  subst this
  exact h l b d e
 | f + 1,l,r,a,b,c,d,e=>by
  show Ok O key n Q (if l ≥ r then .ret l else .ask (p.getD k 0) (p.getD ((l + r) / 2) 0) fun c=>if c=true then kas_place p k f l ((l + r) / 2) else kas_place p k f ((l + r) / 2 + 1) r)
  by_cases hge:l ≥ r
  ·rw [if_pos hge]
   have:l=r:=by lia
   subst this
   exact h l b d e
  ·rw [if_neg hge]
   refine ⟨hP.lt hk,hP.lt (10:),?_⟩
   show Ok O key n Q (if O.blt (kk key p k) (kk key p ((l + r) / 2))=true then kas_place p k f l ((l + r) / 2) else kas_place p k f ((l + r) / 2 + 1) r)
   cases hb:O.blt (kk key p k) (kk key p ((l + r) / 2)) with
   | true =>
    rw [if_pos rfl]
    exact UF hP hk hs h f l ((l + r) / 2) (10:) (10:) (10:) d fun i x y=>KeyOrd.klt_of_klt_of_kle hb (hs _ _ x y)
   | false =>
    rw [if_neg Bool.false_ne_true]
    exact UF hP hk hs h f ((l + r) / 2 + 1) r (10:) b (10:) (fun i x=>KeyOrd.kle_trans (hs i ((l + r) / 2) (10:) (10:)) hb) e
theorem Jx {p:Array Nat} {k d:Nat} (hs:k < p.size) (hd:d≤k) (i:Nat):kk key (bubble p k d) i=if i=k - d then kk key p k else if k - d < i∧i≤k then kk key p (i - 1) else kk key p i:=by
 have e:=getElem?_bubble hs d hd i
 by_cases h1:i=k - d
 ·rw [if_pos h1] at e ⊢;exact Ye e
 ·rw [if_neg h1] at e ⊢
  by_cases h2:k - d < i∧i≤k
  ·rw [if_pos h2] at e ⊢;exact Ye e
  ·rw [if_neg h2] at e ⊢;exact Ye e
theorem Ml {Q:Array Nat→Prop}:∀ (f:Nat) (p:Array Nat) (k:Nat),Pm n p→1≤k→k + f=n→Up key p k→(∀ p',Pm n p'→Up key p' n→Q p')→Ok O key n Q (kas_bin f p k)
 | 0,p,k,hP,_,hn,hs,h=>h p hP (by rw [← hn];exact hs)
 | f + 1,p,k,hP,h1,hn,hs,h=>by
  have hsz:=hP.size
  have hk:k < n:=by lia
  refine Ok.bind (UF hP hk hs (fun l a b c=>?_) k 0 k (Nat.zero_le _) (7:) (10:) (fun i x=>by lia) fun i x y=>by lia)
  refine Ml f _ (k + 1) (hP.of (bubble_perm _ _ _)) (10:) (10:) (fun i j hij hj=>?_) h
  rw [Jx (10:) (10:),Jx (10:) (10:),show k - (k - l)=l by lia]
  repeat' split
  all_goals first
   | (exfalso;lia)
   | exact KeyOrd.kle_refl _
   | exact b _ (10:)
   | exact KeyOrd.kle_of_klt (c _ (10:) (10:))
   | exact hs _ _ (10:) (10:)
theorem sort_ok (h1:1≤n) {Q:Array Nat→Prop} (h:∀ p,Pm n p→Up key p n→Q p):Ok O key n Q (kas_sort n):=by
 have hP:Pm n (List.toArray (List.range n)):=List.Perm.refl _
 refine Ok.bind (Mv hP h1 fun m p a b c d=>?_)
 show Ok O key n Q (if m < n then kas_bin (n - max m 1) p (max m 1) else .ret p)
 have hm:max m 1=m:=by lia
 by_cases hlt:m < n
 ·rw [if_pos hlt,hm]
  exact Ml (n - m) p m a b (10:) d h
 ·rw [if_neg hlt]
  have:m=n:=by lia
  subst this
  exact h p a d
end Srt
namespace L2
open PySem PySem.Spec PyProof.Rows PySem.W
section
variable {prog:Program} {w:World} {A:Around} {E:Value→Shared→Prop} {s:Shared}
end
section
variable {X:Cx}
end
end L2
namespace L2
open PySem PySem.Spec PyProof.Rows PySem.W
section
variable {prog:Program} {w:World} {A:Around} {E:Value→Shared→Prop} {s:Shared}
theorem LV {a:Addr} {vs:List Value} {n:Nat} {P:PySem.Fin→Shared→Prop} (O:KeyOrd) (key:Nat→O.α) (κ:SortKind) (ho:s.heap.get? a=some (seqObj "list" vs.toArray n)) (h64:vs.length < 64)
 (hk:∀ (s':Shared) (Q:SortKind→Shared→Prop),(∀ b o,b≠a→s.heap.get? b=some o→s'.heap.get? b=some o)→2≤vs.length→Q κ s'→wpAny (17:) A (keyKind' vs.toArray) Q E s')
 (hc:∀ (s':Shared) (i j:Nat) (C:Bool→Shared→Prop),(∀ b o,b≠a→s.heap.get? b=some o→s'.heap.get? b=some o)→i < vs.length→j < vs.length→C (O.blt (key i) (key j)) s'→wpAny (17:) A (keyLt' κ (vs.getD i Value.none) (vs.getD j Value.none)) C (fun _ _=>False) s')
 (h:∀ p:Array Nat,Srt.Pm vs.length p→Srt.Up (O:=O) key p vs.length→P (.done (.ret .none)) { s with heap:=sortedHeap s.heap a vs (p.toList.map fun i=>vs.getD i Value.none).toArray }) :
 wpAny (17:) A (Builtin.«list.sort» ⟨[.ref a],[]⟩) P E s:=by
 have hal:a < s.heap.objs.size:=Heap.lt_size ho
 rw [list_sort_plain]
 refine wpAny_bind (listItems_at ho rfl ?_)
 refine wpAny_bind (listUpdate_at ho rfl ?_ (by rw [List.size_toArray,sizeLine_eq];lia) (Nat.zero_le _))
 obtain ⟨e1,ho1⟩ : ∃ e1,(s.heap.update a (Obj.mapSeq fun _=>(#[]:Array Value))).get? a=some (seqObj "list" #[] e1):=⟨_,get?_update_seq ho fun _=>#[]⟩
 refine wpAny_bind (seqEpoch_at ho1 rfl (wpAny_bind (wpAny_newTuple ?_ (by show vs.length≤_;rw [sizeLine_eq];lia))))
 refine wpAny_bind (wpAny_newList (wpAny_holding ?_) (Nat.zero_le _))
 have keep:∀ b o,b≠a→s.heap.get? b=some o→((16:).push (seqObj "list" #[] 0)).get? b=some o:=fun b o hb e =>
  Heap.get?_push_of_some _ (Heap.get?_push_of_some _ ((Heap.get?_update_ne _ _ _ _ hb).trans e))
 have ho6:((16:).push (seqObj "list" #[] 0)).get? a=some (seqObj "list" #[] e1):=Heap.get?_push_of_some _ (Heap.get?_push_of_some _ ho1)
 show wpAny (17:) A _ P E { s with heap:=(16:).push (seqObj "list" #[] 0) }
 dsimp only
 have hz:vs.toArray.size=vs.length:=List.size_toArray
 by_cases h2:vs.toArray.size < 2
 ·rw [if_pos h2,if_pos h2]
  refine wpAny_bind (wpAny_pure ?_)
  rw [StateT.run_pure]
  refine wpAny_bind (wpAny_pure ?_)
  dsimp only
  refine wpAny_bind (seqEpoch_at ho6 rfl ?_)
  have e2:(arrOf (SortSt.mk' general' (vs.toArray.zip vs.toArray) #[] 7 none)).map (·.2)=vs.toArray:=by
   show (vs.toArray.zip vs.toArray).map (·.2)=vs.toArray
   apply Array.toList_inj.mp
   rw [Array.toList_map,Array.toList_zip]
   exact List.map_snd_zip (7:)
  rw [e2]
  refine wpAny_bind (listUpdate_at ho6 rfl ?_ (hsz2:=by show vs.toArray.size≤_;rw [sizeLine_eq];lia))
  simp only [bne_self_eq_false,Bool.false_eq_true,if_false]
  have:=h (List.range vs.length).toArray (List.Perm.refl _) (fun i j hij hj=>by
   have:i=j:=by lia
   subst this
   exact O.irrefl _)
  have e3:((List.range vs.length).toArray.toList.map fun i=>vs.getD i Value.none)=vs:=by
   apply List.ext_getElem (24:)
   intro i a b
   simp at a
   simp [a]
  rw [e3] at this
  exact wpAny_pure this
 ·rw [if_neg h2,if_neg h2]
  refine wpAny_bind ?_
  refine hk { s with heap:=(16:).push (seqObj "list" #[] 0) } _ keep (10:) ?_
  refine wpAny_bind (wpAny_mono (kat_run (Q:=fun st' s'=>∃ p:Array Nat,Srt.Pm vs.length p∧Srt.Up (O:=O) key p vs.length∧(arrOf st').map (·.2)=(p.toList.map fun i=>vs.getD i Value.none).toArray∧failedOf st'=none ∧
   s'={ s with heap:=(16:).push (seqObj "list" #[] 0) })
   (G:=fun p s'=>Srt.Pm vs.length p∧Srt.Up (O:=O) key p vs.length∧s'={ s with heap:=(16:).push (seqObj "list" #[] 0) })
   (vs:=vs) (ks:=vs) rfl (10:) (10:) (fun p st' s' hsz har hfl hg=>?_) ?_) (fun r s' hq=>?_) fun _ _ e=>e)
  ·obtain ⟨hP,hU,es⟩:=hg
   exact ⟨p,hP,hU,kat_snds rfl har,hfl,es⟩
  ·refine Srt.Ok.wp (O:=O) (key:=key) (n:=vs.length) (fun i j C hi hj hC=>?_) (Q:=fun p=>Srt.Pm vs.length p∧Srt.Up (O:=O) key p vs.length) (fun p hp=>⟨hp.1,hp.2,rfl⟩) (Srt.sort_ok (10:) fun p a b=>⟨a,b⟩)
   exact hc { s with heap:=(16:).push (seqObj "list" #[] 0) } i j C keep hi hj hC
  ·obtain ⟨p,o1,o2,o3,o4,rfl⟩:=hq
   obtain ⟨⟨⟩,st'⟩:=r
   dsimp only at o3 o4 ⊢
   refine wpAny_bind (seqEpoch_at ho6 rfl ?_)
   rw [o3]
   refine wpAny_bind (listUpdate_at ho6 rfl ?_ (hsz2:=by show (p.toList.map fun i=>vs.getD i Value.none).toArray.size≤_;rw [List.size_toArray,List.length_map,o1.length_eq,List.length_range,sizeLine_eq];lia))
   rw [o4]
   simp only [bne_self_eq_false,Bool.false_eq_true,if_false]
   exact wpAny_pure (h p o1 o2)
theorem Vg {l:Addr} {vs:List Value} {Q:Value→Shared→Prop} (O:KeyOrd) (key:Nat→O.α) (κ:SortKind) (hl:s.heap.IsList l vs.toArray) (h64:vs.length < 64)
 (hk:∀ (s':Shared) (E':Value→Shared→Prop) (Q:SortKind→Shared→Prop),(∀ b o,s.heap.get? b=some o→s'.heap.get? b=some o)→2≤vs.length→Q κ s'→wpAny (17:) A.in1.in1 (keyKind' vs.toArray) Q E' s')
 (hc:∀ (s':Shared) (i j:Nat) (C:Bool→Shared→Prop),(∀ b o,s.heap.get? b=some o→s'.heap.get? b=some o)→i < vs.length→j < vs.length→C (O.blt (key i) (key j)) s'→wpAny (17:) A.in1.in1 (keyLt' κ (vs.getD i Value.none) (vs.getD j Value.none)) C (fun _ _=>False) s')
 (h:∀ p:Array Nat,Srt.Pm vs.length p→Srt.Up (O:=O) key p vs.length→Q (.ref (s.heap.objs.size + 1)) { s with heap:=sortedAll s.heap vs (p.toList.map fun i=>vs.getD i Value.none).toArray }) :
 wpAny (17:) A (call (.builtin "sorted") [.ref l]) Q E s:=by
 refine Calls.call_function_entry kind_sorted plain_sorted entry_sorted (args_sorted1 _) ?_
 unfold Builtin.«sorted»
 refine wpAny_bind (m:=checkCount "sorted" 1 1 _) (wpAny_pure ?_)
 refine wpAny_bind (collect_list hl ?_ (by rw [sizeLine_eq];lia))
 refine wpAny_bind (wpAny_newList ?_ (by rw [sizeLine_eq];lia))
 have hsz:((s.heap.push (seqObj "list" #[] 0)).update s.heap.objs.size (Obj.mapSeq (· ++ vs.toArray))).objs.size=s.heap.objs.size + 1:=by rw [Heap.size_update,size_push']
 have hoL:(((s.heap.push (seqObj "list" #[] 0)).update s.heap.objs.size (Obj.mapSeq (· ++ vs.toArray))).push (seqObj "list" vs.toArray 0)).get? (s.heap.objs.size + 1)=some (seqObj "list" vs.toArray 0):=by
  rw [← hsz];exact Heap.get?_push_size _ rfl
 have keep:∀ b o,s.heap.get? b=some o→(((s.heap.push (seqObj "list" #[] 0)).update s.heap.objs.size (Obj.mapSeq (· ++ vs.toArray))).push (seqObj "list" vs.toArray 0)).get? b=some o:=fun b o e=>by
  have hlt:b < s.heap.objs.size:=Heap.lt_size e
  exact Heap.get?_push_of_some _ ((Heap.get?_update_ne _ _ _ _ (Nat.ne_of_lt hlt)).trans (Heap.get?_push_of_some _ e))
 show wpAny _ _ _ _ _ { s with heap:=((s.heap.push (seqObj "list" #[] 0)).update s.heap.objs.size (Obj.mapSeq (· ++ vs.toArray))).push (seqObj "list" vs.toArray 0) }
 rw [hsz]
 refine wpAny_bind (wpAny_holding (wpAny_call_entry slot_list_sort ⟨_,hoL,rfl⟩ entry_list_sort ?_ (args_list_sort _)))
 have old:∀ (s':Shared),(∀ b o,b≠s.heap.objs.size + 1→(((s.heap.push (seqObj "list" #[] 0)).update s.heap.objs.size (Obj.mapSeq (· ++ vs.toArray))).push (seqObj "list" vs.toArray 0)).get? b=some o→s'.heap.get? b=some o)→∀ b o,s.heap.get? b=some o→s'.heap.get? b=some o:=fun s' h b o e=>by
  have hlt:b < s.heap.objs.size:=Heap.lt_size e
  exact h b o (fun z=>by rw [z] at hlt;exact absurd hlt (Nat.not_lt.mpr (Nat.le_succ _))) (keep b o e)
 refine LV (A:=A.in1.in1) O key κ hoL h64 (fun s' Q' hs h2 hq=>hk s' _ Q' (old s' hs) h2 hq) (fun s' i j C hs hi hj hC=>hc s' i j C (old s' hs) hi hj hC) fun p o1 o2=>⟨_,rfl,wpAny_pure ⟨_,rfl,h p o1 o2⟩⟩
theorem Nl {x y:Addr} {fx sx fy sy:Value} {b:Bool} {C:Bool→Shared→Prop} (hx:s.heap.IsTuple x [fx,sx].toArray) (hy:s.heap.IsTuple y [fy,sy].toArray)
 (hne:x≠y→SeqAt.EqAt A s fx fy false∧wpAny (17:) A (oneLt' b fx fy) C (fun _ _=>False) s) (heq:x=y→SeqAt.EqAt A s fx fx true∧SeqAt.EqAt A s sx sx true∧C false s) :
 wpAny (17:) A (keyLt' (tuples' b) (.ref x) (.ref y)) C E s:=by
 obtain ⟨ox,gx,cx,nx,dx⟩:=hx
 obtain ⟨oy,gy,cy,ny,dy⟩:=hy
 refine kat_lt gx dx gy dy ?_
 by_cases h:x=y
 ·subst h
  obtain rfl:=Option.some.inj (gx.symm.trans gy)
  rw [dx] at dy
  injection dy with e1 e2
  have e3:[fx,sx]=[fy,sy]:=by simpa using congrArg Array.toList e1
  injection e3 with e4 e5
  injection e5 with e6 e7
  subst e4 e6
  obtain ⟨q1,q2,q3⟩:=heq rfl
  show KatLex prog w A b _ C [(fx,fx),(sx,sx)] 0 s
  refine kat_cons (q1 _ _ _ _ (kat_yes (kat_cons (q2 _ _ _ _ (kat_yes (kat_nil ?_))))))
  exact q3
 ·obtain ⟨q1,q2⟩:=hne h
  show KatLex prog w A b _ C [(fx,fy),(sx,sy)] 0 s
  refine kat_cons (q1 _ _ _ _ (kat_no ?_))
  have:(b && (0:Nat) == 0)=b:=by simp
  rw [this]
  exact q2
end
theorem N3 {α:Type} {O:KeyOrd} {ts:List α} {d:α} {key:α→O.α} {p:Array Nat} (hP:Srt.Pm ts.length p) (hU:Srt.Up (O:=O) (fun i=>key (ts.getD i d)) p ts.length) :
 (p.toList.map fun i=>ts.getD i d).Perm ts∧(p.toList.map fun i=>ts.getD i d).Pairwise fun x y=>O.blt (key y) (key x)=false:=by
 constructor
 ·have h1:=List.Perm.map (fun i=>ts.getD i d) hP
  have e:(List.range ts.length).map (fun i=>ts.getD i d)=ts:=by
   apply List.ext_getElem (24:)
   intro i a b
   simp at a
   simp [a]
  rwa [e] at h1
 ·rw [List.pairwise_iff_getElem]
  intro i j hi hj hij
  have hsz:=hP.size
  simp only [List.length_map,Array.length_toList] at hi hj
  have:=hU i j (Nat.le_of_lt hij) (10:)
  unfold KeyOrd.kle Srt.kk at this
  have ei:p.getD i 0=p[i]:=by simp [Array.getD,hi]
  have ej:p.getD j 0=p[j]:=by simp [Array.getD,hj]
  rw [ei,ej] at this
  simpa using this
theorem IsTuple.keeps {h h':Heap} {a:Addr} {xs:Array Value} (k:∀ b o,h.get? b=some o→h'.get? b=some o) (x:h.IsTuple a xs):h'.IsTuple a xs:=by
 obtain ⟨o,e,r⟩:=x
 exact ⟨o,k _ _ e,r⟩
section
variable {prog:Program} {w:World} {A:Around} {E:Value→Shared→Prop} {s:Shared}
end
section
variable {X:Cx}
theorem Yp {α:Type} {f:α→Addr}:∀ {ts:List α} {us:List Value},Vals (ts.map fun t=>V.ref (f t)) us→us=ts.map fun t=>Value.ref (f t)
 | [],_,.nil=>rfl
 | t :: ts,_,.cons r rr=>by
  have e:_=Value.ref (f t):=r
  rw [List.map_cons,← Yp rr,← e]
theorem JS {α:Type} {f:α→Addr}:∀ ts:List α,Vals (ts.map fun t=>V.ref (f t)) (ts.map fun t=>Value.ref (f t))
 | []=>.nil
 | t :: ts=>.cons rfl (JS ts)
end
end L2
namespace L2
open PySem PySem.Spec PyProof.Rows
theorem Za:plainId "dict.update.loop" = true:=by decide +kernel
theorem Z7:entryFor table "dict.update.loop" = some Builtin.«dict.update.loop»:=entryFor_of_tree (by kernel_rfl)
theorem UQ:typeLookup (.type "list") "keys" = pure none:=by rw [typeLookup_type,builtinLookup_eq_fast];kernel_rfl
section
variable {prog:Program} {w:World} {A:Around} {E:Value→Shared→Prop} {s:Shared}
theorem Gu {a:Addr} {xs:Array Value} {k:Nat} {sl:Array (Option Value)} {Q:Option Value→Shared→Prop} (hx:s.heap.get? a=some { cls:=.type "list", dict:=none,data:=.seq xs k,slots:=sl }) (hA:A.handled=none)
 (h:∀ h' tk,(∀ b o,s.heap.get? b=some o→h'.get? b=some o)→Q none { s with heap:=h',toks:=tk }):wpAny (17:) A (getAttr? (.ref a) "keys") Q E s:=by
 obtain ⟨hp,g,d,tk,os⟩:=s
 have hT:∀ tk',(⟨hp,g,d,tk',os⟩ : Shared).TypeIs (.ref a) "list" := fun _=>⟨_,hx,rfl⟩
 have f1:=sub_AttributeError
 have f3:=F.slot_list_getattribute.lookup
 have f4:=F.slot_list_getattribute.bind (.ref a)
 have f5:=am_list_getattr_none
 unfold getAttr? getAttrBy? getAttrBy
 repeat (any_goals (first | assumption | exact hT _ | ((with_reducible show wpAny _ _ (call (Value.builtin "list.__getattribute__") _ _) _ _ _);refine call_meets F.slot_list_getattribute (hT _) am_entry_list_getattribute (F.args_list_getattribute_2 _ _) (meets_getattribute_miss_list a xs k sl "keys" _ UQ (0:)) ⟨hx,hA,fun h' tk' e hx'=>?_⟩) | wp_step))
 obtain ⟨t',u',he⟩:=hx'.there
 show wpAny _ _ (getattributeRaised _ _ _ _ _ _ _) _ _ _
 unfold getattributeRaised
 repeat (any_goals (first | assumption | wp_step))
 exact h _ _ hx'.keeps
theorem U6 {h:Heap} {a b:Addr} {o u:Obj} (ha:h.get? a=some o) (hb:h.get? b=some u) (hc:o.cls≠u.cls):a≠b:=fun e=>by
 subst e
 rw [ha] at hb
 exact hc (congrArg Obj.cls (Option.some.inj hb))
def ZD (kvs:List (Key × Value)):List (Key × Value)→List (Key × Value)
 | []=>kvs
 | p :: r=>ZD (stored kvs p.1 p.2) r
theorem XV {R:Result→Shared→Prop} {l d it:Addr} {items:Array Value} (hA:A.handled=none) (hli:l≠it) (hd0:(d == sysModules)=false):∀ (ps:List (Key × Value)) (i:Nat) (s:Shared) (kvs:List (Key × Value)),i + ps.length=items.size→s.heap.IsListIter it l i→s.heap.IsList l items→s.heap.DictOf (Qt prog w) d kvs→kvs.length + ps.length≤sizeLine →
 (∀ (j:Nat) (q:Key × Value),ps[j]?=some q→∃ p u,items[i + j]?=some (.ref p)∧(Qt prog w).is q.1 u=true∧s.heap.IsTuple p #[u,q.2]) →
 (∀ h' tk,h'.DictOf (Qt prog w) d (ZD kvs ps)→(∀ b o,b≠it→b≠d→s.heap.get? b=some o→h'.get? b=some o)→R (.ok (.ret .none)) { s with heap:=h',toks:=tk }) →
 codeAny (17:) A (.builtin "dict.update.loop" ⟨[.ref d,.ref it,rawInt (i:Int),.none],[]⟩) R s
 | [],i,s,kvs,hk,hit,hL,hD,hz,hp,hR=>by
  have W:=Walks.list (prog:=prog) (w:=w) (A:=A.in1) hA it l hli items
  have hin:i=items.size:=by simpa using hk
  subst hin
  refine codeAny_builtin Z7 ?_
  rw [Around.under_plainId Za _]
  show wpAny _ A.in1 (pyNext (.ref it) >>= _) _ _ s
  refine wpAny_bind (W.done s _ _ ⟨hit,hL⟩ fun h' tk hk'=>?_)
  show wpAny _ A.in1 (Builtin.Dict.addKeywords d [] >>= _) _ _ _
  refine wpAny_bind (wpAny_pure (wpAny_pure ?_))
  have hdi:d≠it:=by
   obtain ⟨o,es,ep,ho,hc,_⟩:=hD
   obtain ⟨o2,ho2,hc2,_⟩:=hit
   exact U6 ho ho2 (by rw [hc.1,hc2];intro z;injection z with z;exact absurd z (27:))
  exact hR h' tk (hD.extBut (b:=it) (fun a o hne e=>hk' a o (by simpa using hne) e) hdi) (fun b o h1 _ e=>hk' b o (by simpa using h1) e)
 | q :: ps,i,s,kvs,hk,hit,hL,hD,hz,hp,hR=>by
  have W:=Walks.list (prog:=prog) (w:=w) (A:=A.in1) hA it l hli items
  obtain ⟨p,u,hip,hku,hpt⟩:=hp 0 q rfl
  rw [Nat.add_zero] at hip
  have hlt:i < items.size:=by rw [List.length_cons] at hk;lia
  have hdi:d≠it:=by
   obtain ⟨o,es,ep,ho,hc,_⟩:=hD
   obtain ⟨o2,ho2,hc2,_⟩:=hit
   exact U6 ho ho2 (by rw [hc.1,hc2];intro z;injection z with z;exact absurd z (27:))
  have hdl:d≠l:=by
   obtain ⟨o,es,ep,ho,hc,_⟩:=hD
   obtain ⟨o2,ho2,hc2,_⟩:=hL
   exact U6 ho ho2 (by rw [hc.1,hc2];intro z;injection z with z;exact absurd z (27:))
  have hpi:∀ {p:Addr} {xs:Array Value},s.heap.IsTuple p xs→p≠it∧p≠d:=fun {p xs} ht=>by
   obtain ⟨o,ho,hc,_⟩:=ht
   obtain ⟨o2,ho2,hc2,_⟩:=id hit
   obtain ⟨o3,es,ep,ho3,hc3,_⟩:=id hD
   exact ⟨U6 ho ho2 (by rw [hc,hc2];intro z;injection z with z;exact absurd z (27:)),U6 ho ho3 (by rw [hc,hc3.1];intro z;injection z with z;exact absurd z (27:))⟩
  refine codeAny_builtin Z7 ?_
  rw [Around.under_plainId Za _]
  show wpAny _ A.in1 (pyNext (.ref it) >>= _) _ _ s
  refine wpAny_bind (W.item i s _ _ hlt ⟨hit,hL⟩ fun v h' tk hP hst' hk'=>?_)
  obtain rfl:v=.ref p:=Option.some.inj ((show items[i]?=some v from hP).symm.trans hip)
  have hk2:∀ b o,b≠it→s.heap.get? b=some o→h'.get? b=some o:=fun b o hb e=>hk' b o (by simpa using hb) e
  have hpt':h'.IsTuple p #[u,q.2]:=by
   obtain ⟨o,ho,r⟩:=id hpt
   exact ⟨o,hk2 _ _ (hpi hpt).1 ho,r⟩
  obtain ⟨o,ho,hc,n,hdat⟩:=id hpt'
  refine wpAny_bind (wpAny_holding ?_)
  refine wpAny_bind (wpAny_tryCatch ?_)
  unfold Builtin.Dict.pairItems
  refine wpAny_bind (wpAny_typeOf (T:="tuple") (s:={ s with heap:=h',toks:=tk }) ⟨o,ho,hc⟩ ?_)
  rw [if_pos (0:)]
  refine wpAny_bind ?_
  show wpAny _ A.in1 (load p >>= _) _ _ _
  refine wpAny_bind (wpAny_load ho ?_)
  rw [hdat]
  refine wpAny_pure (wpAny_pure ?_)
  have hD':h'.DictOf (Qt prog w) d kvs:=hD.extBut (b:=it) (fun a o hne e=>hk2 a o hne e) hdi
  refine wpAny_holding (wpAny_dictSet_pairs (s:={ s with heap:=h',toks:=tk }) hku hD' (fun h'' hD'' hs=>?_) (by rw [List.length_cons] at hz;lia))
  have hit2:h''.IsListIter it l (i + 1):=by
   obtain ⟨o,ho,r⟩:=hst'.1
   exact ⟨o,(hs.2 it (Ne.symm hdi)).trans ho,r⟩
  have hL2:h''.IsList l items:=by
   obtain ⟨o,ho,r⟩:=hst'.2
   exact ⟨o,(hs.2 l (Ne.symm hdl)).trans ho,r⟩
  have keep2:∀ b o,b≠it→b≠d→s.heap.get? b=some o→h''.get? b=some o:=fun b o h1 h2 e=>(hs.2 b h2).trans (hk2 b o h1 e)
  have hlen:(stored kvs q.1 q.2).length≤kvs.length + 1:=by
   unfold stored
   split
   ·rw [List.length_map];lia
   ·rw [List.length_append];simp
  refine wpAny_pure ⟨plainId_quiet Za _,?_⟩
  refine XV hA hli hd0 ps (i + 1) _ (stored kvs q.1 q.2) (by rw [List.length_cons] at hk;lia) hit2 hL2 hD'' (by rw [List.length_cons] at hz;lia) (fun j r hj=>?_) fun h3 tk3 hD3 hk3=>?_
  ·obtain ⟨p',u',e1,e2,e3⟩:=hp (j + 1) r (by simpa using hj)
   refine ⟨p',u',by rw [← e1];congr 1;lia,e2,?_⟩
   obtain ⟨o,ho,rr⟩:=id e3
   exact ⟨o,keep2 _ _ (hpi e3).1 (hpi e3).2 ho,rr⟩
  ·exact hR h3 tk3 hD3 fun b o h1 h2 e=>hk3 b o h1 h2 (keep2 b o h1 h2 e)
theorem Jn {l:Addr} {items:Array Value} {ps:List (Key × Value)} {Q:Value→Shared→Prop} (hA:A.handled=none) (hb:sysModules < s.heap.objs.size) {ol:Obj} {nl:Nat} (hl:s.heap.get? l=some ol) (hlc:ol.cls=.type "list") (hld:ol.dict=none) (hlt:ol.data=.seq items nl) (hz:ps.length≤sizeLine) (hn:ps.length=items.size)
 (hp:∀ (j:Nat) (q:Key × Value),ps[j]?=some q→∃ p u,items[j]?=some (.ref p)∧(Qt prog w).is q.1 u=true∧s.heap.IsTuple p #[u,q.2])
 (h:∀ h' tk,h'.DictOf (Qt prog w) s.heap.objs.size (ZD [] ps)→(∀ b o,s.heap.get? b=some o→h'.get? b=some o)→Q (57:) { s with heap:=h',toks:=tk }) :
 wpAny (17:) A (call (.type "dict") [.ref l]) Q E s:=by
 refine callType_codes (Q₁:=fun obj s₁=>obj=.ref s.heap.objs.size∧s₁={ s with heap:=s.heap.push { cls:=.type "dict", data:=.dict #[] } }) F.kt_called_dict (F.kt_typeCall_dict_1 _) F.entry_dict_init (kt_code_dict_new _ ⟨rfl,rfl⟩) ?_
 rintro obj s₁ ⟨rfl,rfl⟩
 have hnew:(s.heap.push { cls:=.type "dict", data:=.dict #[] }).DictOf (Qt prog w) s.heap.objs.size []:=Heap.DictOf.new s.heap
 have hl1:(s.heap.push { cls:=.type "dict", data:=.dict #[] }).get? l=some ol:=Heap.get?_push_of_some _ hl
 have hT:({ s with heap:=s.heap.push { cls:=.type "dict", data:=.dict #[] } }:Shared).TypeIs (.ref l) "list" := ⟨_,hl1,hlc⟩
 obtain ⟨c1,d1,t1,s1⟩:=ol
 simp only at hlc hld hlt
 subst hlc hld hlt
 refine ⟨hnew.typeIs,F.args_dict_init_2 _ _,?_⟩
 unfold Builtin.«dict.__init__»
 refine wpAny_bind ?_
 unfold Builtin.Dict.selfAndRest
 refine wpAny_bind (wpAny_notOrdered_dict hnew.typeIs ?_)
 show wpAny _ _ (pure (s.heap.objs.size,[Value.ref l])) _ _ _
 refine wpAny_pure ?_
 show wpAny _ _ (Builtin.Dict.updateFrom "dict.__init__" s.heap.objs.size (.ref l) [] .none) _ _ _
 unfold Builtin.Dict.updateFrom
 refine wpAny_bind (wpAny_typeOf hT ?_)
 rw [if_pos (27:)]
 refine wpAny_bind (Gu hl1 hA fun h2 tk2 hk2=>?_)
 simp only [Option.isNone_none,if_true]
 refine wpAny_bind (wpAny_rule ?_)
 have hL2:h2.IsList l items:=⟨_,hk2 _ _ hl1,rfl,nl,rfl⟩
 refine wpAny_bind (wpAny_pyIter_list (s:={ s with heap:=h2,toks:=tk2 }) hL2 ?_)
 have hlt2:l < h2.objs.size:=Heap.lt_size (hk2 _ _ hl1)
 have hsz2:s.heap.objs.size < h2.objs.size:=by
  obtain ⟨o,es,ep,ho,_⟩:=id hnew
  exact Heap.lt_size (hk2 _ _ ho)
 have hD2:h2.DictOf (Qt prog w) s.heap.objs.size []:=by
  obtain ⟨o,es,ep,ho,r⟩:=id hnew
  exact ⟨o,es,ep,hk2 _ _ ho,r⟩
 have old:∀ b o,s.heap.get? b=some o→h2.get? b=some o:=fun b o e=>hk2 b o (Heap.get?_push_of_some _ e)
 refine wpAny_pure ⟨plainId_quiet Za _,XV (A:=A.in1) (it:=h2.objs.size) (l:=l) (items:=items) hA (Nat.ne_of_lt hlt2) (beq_eq_false_iff_ne.mpr (Ne.symm (Nat.ne_of_lt hb))) ps 0 _ [] (by simpa using hn) (55:) (hL2.push _) (hD2.push _) (by simpa using hz) (fun j q hq=>?_) fun h' tk hD hk=>⟨rfl,?_⟩⟩
 ·obtain ⟨p,u,e1,e2,o,ho,r⟩:=hp j q hq
  exact ⟨p,u,by rw [Nat.zero_add];exact e1,e2,o,Heap.get?_push_of_some _ (old _ _ ho),r⟩
 ·refine h h' tk hD fun b o e=>hk b o ?_ ?_ (Heap.get?_push_of_some _ (old b o e))
  ·exact Nat.ne_of_lt (Heap.lt_size (old b o e))
  ·exact Nat.ne_of_lt (58:)
end
theorem WJ {kvs:List (Key × Value)} {k:Key} {v:Value} (h:k ∉ kvs.map (·.1)):stored kvs k v=kvs ++ [(k,v)]:=by
 unfold stored
 rw [if_neg]
 intro z
 obtain ⟨kv,h1,h2⟩:=List.any_eq_true.mp z
 exact h (List.mem_map.mpr ⟨kv,h1,of_decide_eq_true h2⟩)
theorem Z1:∀ (ps kvs:List (Key × Value)),((kvs ++ ps).map (·.1)).Nodup→ZD kvs ps=kvs ++ ps
 | [],kvs,_=>by simp [ZD]
 | p :: r,kvs,h=>by
  have hn:p.1 ∉ kvs.map (·.1):=fun hm=>by
   rw [List.map_append,List.nodup_append] at h
   exact h.2.2 _ hm _ (24:) rfl
  show ZD (stored kvs p.1 p.2) r=_
  rw [WJ hn]
  have e:kvs ++ [(p.1,p.2)] ++ r=kvs ++ p :: r:=by simp
  rw [Z1 r _ (by rw [e];exact h),e]
theorem Wi {X:Cx} {pins:List (9:)} {σ:St} {H:Hp} {s:Shared} (I:Inv X pins σ H s):∀ ts:List (Addr × Str × V),(∀ t ∈ ts,SqT X.K H t.1 [.str t.2.1,t.2.2]) →
 ∃ ps:List (Key × Value),KV (ts.map fun t=>((Sum.inr t.2.1:Key),t.2.2)) ps∧∀ (j:Nat) (q:Key × Value),ps[j]?=some q→∃ p u,(ts.map fun t=>Value.ref t.1)[j]?=some (.ref p)∧(Qt X.prog X.w).is q.1 u=true∧s.heap.IsTuple p #[u,q.2]
 | [],_=>⟨[],.nil,fun j q h=>by simp at h⟩
 | t :: r,h=>by
  obtain ⟨ps,h1,h2⟩:=Wi I r fun u hu=>h u (38:)
  obtain ⟨its,rv,p,_⟩:=I.tuple (h t List.mem_cons_self)
  obtain ⟨u,v,rfl,ru,rv'⟩:=rv.two
  refine ⟨(Sum.inr t.2.1,v) :: ps,.cons ⟨rfl,rv'⟩ h1,fun j q hj=>?_⟩
  cases j with
  | zero =>
   have:q=(Sum.inr t.2.1,v):=by simpa using hj.symm
   subst this
   exact ⟨t.1,u,rfl,YQ (k:=Sum.inr t.2.1) ru,p⟩
  | succ j =>
   obtain ⟨p',u',e1,e2,e3⟩:=h2 j q (by simpa using hj)
   exact ⟨p',u',by simpa using e1,e2,e3⟩
theorem KV.keys' {kvs:List (Key × V)} {ps:List (Key × Value)} (r:KV kvs ps):ps.map (·.1)=kvs.map (·.1):=by
 induction r with
 | nil=>rfl
 | cons h _ ih=>rw [List.map_cons,List.map_cons,ih,h.1]
section
variable {X:Cx}
theorem Zf (hc:X.calm=true):Zs X (.type "dict") (fun xs H Q=>∃ (l:Addr) (ts:List (Addr × Str × V)),xs=[.ref l]∧SqL X.K H l (ts.map fun t=>V.ref t.1)∧(∀ t ∈ ts,SqT X.K H t.1 [.str t.2.1,t.2.2])∧(ts.map fun t=>t.2.1).Nodup∧ts.length≤1000 ∧
 ∀ d,H d=none→Q (.ref d) (upd H d (.dK (ts.map fun t=>((Sum.inr t.2.1:Key),t.2.2))))):=by
 intro pins s σ H xs us Q I r h
 obtain ⟨l,ts,rfl,hl,ht,hnd,hz,q⟩:=h
 cases r with
 | cons r rr =>
  cases rr
  obtain rfl:_=Value.ref l:=r
  obtain ⟨its,rv,⟨o,n,e,c,dn,dt⟩,_⟩:=I.list hl
  obtain rfl:=Yp rv
  obtain ⟨ps,hkv,hps⟩:=Wi I ts ht
  have hlen:ps.length=ts.length:=by have:=hkv.length;rw [List.length_map] at this;exact this.symm
  have hz1:ps.length≤sizeLine:=by rw [hlen,sizeLine_eq];lia
  refine Jn (I.ok.hd hc) I.big e c dn dt hz1 (by rw [List.size_toArray,List.length_map];exact hlen) (fun j q hq=>by simpa using hps j q hq) fun h' tk hD hk=>?_
  have hk1:((([]:List (Key × Value)) ++ ps).map (·.1)).Nodup:=by
   rw [List.nil_append,KV.keys' hkv,List.map_map]
   have e2:(ts.map ((fun x:Key × V=>x.1) ∘ fun t=>((Sum.inr t.2.1:Key),t.2.2)))=(ts.map fun t=>t.2.1).map (Sum.inr:Str→Key):=by rw [List.map_map];rfl
   rw [e2]
   exact List.Pairwise.map _ (fun a b hne z=>hne (by injection z)) hnd
  rw [Z1 ps [] hk1,List.nil_append] at hD
  have hfr:=I.hok.fresh (Nat.le_refl s.heap.objs.size)
  refine ⟨.ref s.heap.objs.size,_,I.laid (a:=s.heap.objs.size) (o:=.dK (ts.map fun t=>((Sum.inr t.2.1:Key),t.2.2))) (t':=tk) hk (7:) (XG (by rw [List.length_map,sizeLine_eq];lia) (beq_eq_false_iff_ne.mpr (Ne.symm (Nat.ne_of_lt I.big))) hkv hD),rfl,q _ hfr⟩
theorem Jh:∀ {bs:List Bool} {us:List Value},Vals (bs.map V.bl) us→us=bs.map Value.bool
 | [],_,.nil=>rfl
 | b :: bs,_,.cons r rr=>by
  have e:_=Value.bool b:=r
  rw [List.map_cons,← Jh rr,← e]
theorem Gw (hc:X.calm=true):Zs X (.builtin "all") (fun xs H Q=>∃ (l:Addr) (bs:List Bool),xs=[.ref l]∧SqL X.K H l (bs.map V.bl)∧Q (.bl (bs.all id)) H):=by
 intro pins s σ H xs us Q I r h
 obtain ⟨l,bs,rfl,hl,q⟩:=h
 cases r with
 | cons r rr =>
  cases rr
  obtain rfl:_=Value.ref l:=r
  obtain ⟨its,rv,p,_⟩:=I.list hl
  obtain rfl:=Jh rv
  have hL:=p.isList
  have hlt:l < s.heap.objs.size:=by obtain ⟨_,e,_⟩:=hL;exact Heap.lt_size e
  refine call_all_walk (wpAny_pyIter_list hL ?_)
  refine ⟨s.heap.objs.size,[s.heap.objs.size,l],[s.heap.objs.size],(bs.map Value.bool).toArray.size,_,_,fun i=>(bs[i]?).getD true,rfl,Walks.list (A:=X.A.in1) (I.ok.hd hc) _ l (Nat.ne_of_lt hlt) (bs.map Value.bool).toArray,⟨(55:),hL.push _⟩,fun i v s' Q' E' hP hQ=>?_,fun h' tk hk=>?_⟩
  ·have hP':(bs.map Value.bool)[i]?=some v:=by simpa using hP
   rw [List.getElem?_map] at hP'
   cases eb:bs[i]? with
   | none=>rw [eb] at hP';simp at hP'
   | some b =>
    rw [eb] at hP'
    obtain rfl:Value.bool b=v:=by simpa using hP'
    have hQ2:Q' ((bs[i]?).getD true) s':=hQ
    rw [eb] at hQ2
    exact wpAny_truthy_bool hQ2
  ·have e:((List.range (bs.map Value.bool).toArray.size).all fun i=>(bs[i]?).getD true)=bs.all id:=by
    rw [List.size_toArray,List.length_map,Bool.eq_iff_iff,List.all_eq_true,List.all_eq_true]
    constructor
    ·intro h x hx
     obtain ⟨i,hi,rfl⟩:=List.getElem_of_mem hx
     have:=h i (List.mem_range.mpr hi)
     rw [List.getElem?_eq_getElem hi] at this
     exact this
    ·intro h i hi
     have hi':=List.mem_range.mp hi
     rw [List.getElem?_eq_getElem hi']
     exact h _ (List.getElem_mem hi')
   rw [e]
   exact ⟨.bl _,H,I.kept (t':=tk) (fun b o eb=>hk b o (fun hm=>by rw [List.mem_singleton.mp hm] at eb;exact Nat.lt_irrefl _ (Heap.lt_size eb)) (Heap.get?_push_of_some _ eb)),rfl,q⟩
end
end L2
namespace L2
open PySem PySem.Spec PyProof.Rows
section
variable {X:Cx} {tg:Expr}
end
end L2
namespace TM
inductive Tree (α:Type) where
 | node (name:α) (mark:Int) (bs:List (Tree α))
variable {α:Type}
def Tree.bs:Tree α→List (Tree α)
 | .node _ _ bs=>bs
def atT:Tree α→List Int→Option (Tree α)
 | t,[]=>some t
 | t,i :: r=>if 0≤i then (match t.bs[i.toNat]? with
  | some b=>atT b r
  | none=>none) else none
structure Rows (α:Type) where
 n:Nat
 nm:Nat→α
 mr:Nat→Int
 up:Nat→Nat
variable {R:Rows α}
section
variable {K:Nat→List Int} {B:Nat→Tree α} {o0:Tree α}
def it (R:Rows α):Nat→Nat→Nat
 | 0,s=>s
 | j + 1,s=>R.up (it R j s)
variable {B':Nat→Tree α} {o:Tree α} {s:Nat}
end
end TM
namespace L2
open PySem PySem.Spec PyProof.Rows TM
mutual
inductive TrV (K:PySem.W.Frag) (H:Hp):V→Tree Str→Prop where
 | mk {a b:Addr} {vs:List V} {ts:List (Tree Str)} {name:Str} {mark:Int}:SqT K H a [.str name,.int mark,.ref b]→SqT K H b vs→TrAll K H vs ts→vs.length≤1000→TrV K H (.ref a) (53:)
inductive TrAll (K:PySem.W.Frag) (H:Hp):List V→List (Tree Str)→Prop where
 | nil:TrAll K H [] []
 | cons {v:V} {vs:List V} {t:Tree Str} {ts:List (Tree Str)}:TrV K H v t→TrAll K H vs ts→TrAll K H (v :: vs) (t :: ts)
end
mutual
theorem TrV.mono {K:PySem.W.Frag} {H H':Hp} (k:∀ a xs,SqT K H a xs→SqT K H' a xs):∀ {v:V} {t:Tree Str},TrV K H v t→TrV K H' v t
 | _,_,.mk h1 h2 h3 h4=>.mk (k _ _ h1) (k _ _ h2) (TrAll.mono k h3) h4
theorem TrAll.mono {K:PySem.W.Frag} {H H':Hp} (k:∀ a xs,SqT K H a xs→SqT K H' a xs):∀ {vs:List V} {ts:List (Tree Str)},TrAll K H vs ts→TrAll K H' vs ts
 | _,_,.nil=>.nil
 | _,_,.cons h t=>.cons (TrV.mono k h) (TrAll.mono k t)
end
theorem TrAll.length {K:PySem.W.Frag} {H:Hp}:∀ {vs:List V} {ts:List (Tree Str)},TrAll K H vs ts→vs.length=ts.length
 | _,_,.nil=>rfl
 | _,_,.cons _ t=>by rw [List.length_cons,List.length_cons,TrAll.length t]
theorem TrAll.get {K:PySem.W.Frag} {H:Hp}:∀ {vs:List V} {ts:List (Tree Str)} {i:Nat} {t:Tree Str},TrAll K H vs ts→ts[i]?=some t→∃ v,vs[i]?=some v∧TrV K H v t
 | _,_,_,_,.nil,e=>by simp at e
 | _,_,0,_,.cons h _,e=>by simp at e;subst e;exact ⟨_,rfl,h⟩
 | _,_,i + 1,t,.cons _ r,e=>by
  obtain ⟨v,h1,h2⟩:=TrAll.get (i:=i) (t:=t) r (by simpa using e)
  exact ⟨v,by simpa using h1,h2⟩
theorem TrAll.append {K:PySem.W.Frag} {H:Hp}:∀ {vs ws:List V} {ts us:List (Tree Str)},TrAll K H vs ts→TrAll K H ws us→TrAll K H (vs ++ ws) (ts ++ us)
 | _,_,_,_,.nil,h=>h
 | _,_,_,_,.cons a t,h=>.cons a (TrAll.append t h)
theorem SqT.put {K:PySem.W.Frag} {H:Hp} {a d:Addr} {xs ys:List V} {o:HO} (h:SqT K H a xs) (hd:H d=some (.lst ys)):SqT K (upd H d o) a xs:=by
 rcases h with (h | ⟨ob,h⟩) | h
 ·exact .inl (.inl (by rw [Qg (QS h hd (32:))];exact h))
 ·exact .inl (.inr ⟨ob,by rw [Qg (QS h hd (32:))];exact h⟩)
 ·exact .inr h
end L2
namespace TM
variable {α:Type}
mutual
def sz:Tree α→Nat
 | .node _ _ bs=>1 + szs bs
def szs:List (Tree α)→Nat
 | []=>0
 | t :: r=>sz t + szs r
end
mutual
def lv:Tree α→Nat
 | .node _ _ bs=>1 + lvs bs
def lvs:List (Tree α)→Nat
 | []=>0
 | t :: r=>max (lv t) (lvs r)
end
mutual
def pl:Tree α→List (List Int)
 | .node _ _ bs=>[] :: pls 0 bs
def pls:Nat→List (Tree α)→List (List Int)
 | _,[]=>[]
 | i,t :: r=>(pl t).map (List.cons (i:Int)) ++ pls (i + 1) r
end
theorem LZ (t:Tree α):sz t=1 + szs t.bs:=by cases t;simp [sz,Tree.bs]
theorem Zg (t:Tree α):lv t=1 + lvs t.bs:=by cases t;simp [lv,Tree.bs]
theorem Uu:∀ ts:List (Tree α),((ts.map fun t=>(sz t:Int)).sum)=(szs ts:Int)
 | []=>by simp [szs]
 | t :: r=>by rw [List.map_cons,List.sum_cons,Uu r];simp [szs]
theorem Oy {ts:List (Tree α)} {t:Tree α} (h:t ∈ ts):sz t≤szs ts:=by
 induction ts with
 | nil=>cases h
 | cons u r ih =>
  simp only [szs]
  rcases List.mem_cons.mp h with rfl | h
  ·lia
  ·have:=ih h;lia
theorem Yv {ts:List (Tree α)} {t:Tree α} (h:t ∈ ts):lv t≤lvs ts:=by
 induction ts with
 | nil=>cases h
 | cons u r ih =>
  simp only [lvs]
  rcases List.mem_cons.mp h with rfl | h
  ·lia
  ·have:=ih h;lia
open HT (Ox)
variable {R:Rows α} {K:Nat→List Int} {B:Nat→Tree α} {o0:Tree α}
end TM
namespace TT
open TM PySem
inductive Lab where
 | call (m b:Int)
 | put (nm:Str) (kept:Bool) (add:Int)
abbrev Tm:=Tree Lab
def ZB (m b:Int):Tm:=.node (.call m b) 0 []
def lcl:Lab→List (Int × Int)
 | .call m b=>[(m,b)]
 | .put _ _ _=>[]
def isC:Lab→Bool
 | .call _ _=>true
 | .put _ _ _=>false
def lab:Tm→Lab
 | .node l _ _=>l
mutual
def cls:Tm→List (Int × Int)
 | .node l _ bs=>lcl l ++ Zh bs
def Zh:List Tm→List (Int × Int)
 | []=>[]
 | t :: r=>cls t ++ Zh r
end
def hdF (f:Int→Int→Tm):Lab→List Tm→Tm
 | .call m b,_=>f m b
 | .put n k a,ts=>.node (.put n k a) 0 ts
mutual
def sub (f:Int→Int→Tm):Tm→Tm
 | .node l _ bs=>hdF f l (P4 f bs)
def P4 (f:Int→Int→Tm):List Tm→List Tm
 | []=>[]
 | t :: r=>sub f t :: P4 f r
end
theorem OZ {ts:List Tm} {t:Tm} (h:t ∈ ts):∀ c,c ∈ cls t→c ∈ Zh ts:=by
 induction ts with
 | nil=>cases h
 | cons u r ih =>
  intro c hc
  simp only [Zh]
  rcases List.mem_cons.mp h with rfl | h
  ·exact List.mem_append_left _ hc
  ·exact List.mem_append_right _ (ih h c hc)
theorem JE:∀ (ts:List Tm) (t:Tm),Zh (ts ++ [t])=Zh ts ++ cls t
 | [],t=>by simp [Zh]
 | u :: r,t=>by rw [List.cons_append];simp only [Zh,JE r t,List.append_assoc]
mutual
theorem VC:∀ t:Tm,(cls t).length≤sz t
 | .node l _ bs=>by
  simp only [cls,sz,List.length_append]
  have:=UL bs
  have h:(lcl l).length≤1:=by cases l <;> simp [lcl]
  lia
theorem UL:∀ ts:List Tm,(Zh ts).length≤szs ts
 | []=>by simp [Zh,szs]
 | t :: r=>by simp only [Zh,szs,List.length_append];have h1:=VC t;have h2:=UL r;lia
end
def look (t:Tm) (p:List Int):List (Int × Int):=match atT t p with
 | some u=>lcl (lab u)
 | none=>[]
variable {R:Rows Lab}
variable {B B':Nat→Tm} {f:Int→Int→Tm}
end TT
namespace L2
open PySem PyProof.Rows TM TT
abbrev YX:Str:=Str.ofString "call"
abbrev PUT:Str:=Str.ofString "put"
mutual
inductive TmV (K:PySem.W.Frag) (H:Hp):V→Tm→Prop where
 | call {a:Addr} {m b:Int}:SqT K H a [.str YX,.int m,.int b]→TmV K H (.ref a) (.node (.call m b) 0 [])
 | put {a b:Addr} {vs:List V} {ts:List Tm} {n:Str} {k:Bool} {ad:Int}:SqT K H a [.str PUT,.str n,.bl k,.int ad,.ref b]→SqT K H b vs→TmAll K H vs ts→vs.length≤1000→TmV K H (.ref a) (.node (.put n k ad) 0 ts)
inductive TmAll (K:PySem.W.Frag) (H:Hp):List V→List Tm→Prop where
 | nil:TmAll K H [] []
 | cons {v:V} {vs:List V} {t:Tm} {ts:List Tm}:TmV K H v t→TmAll K H vs ts→TmAll K H (v :: vs) (t :: ts)
end
mutual
theorem TmV.mono {K:PySem.W.Frag} {H H':Hp} (k:∀ a xs,SqT K H a xs→SqT K H' a xs):∀ {v:V} {t:Tm},TmV K H v t→TmV K H' v t
 | _,_,.call h=>.call (k _ _ h)
 | _,_,.put h1 h2 h3 h4=>.put (k _ _ h1) (k _ _ h2) (TmAll.mono k h3) h4
theorem TmAll.mono {K:PySem.W.Frag} {H H':Hp} (k:∀ a xs,SqT K H a xs→SqT K H' a xs):∀ {vs:List V} {ts:List Tm},TmAll K H vs ts→TmAll K H' vs ts
 | _,_,.nil=>.nil
 | _,_,.cons h t=>.cons (TmV.mono k h) (TmAll.mono k t)
end
theorem TmAll.length {K:PySem.W.Frag} {H:Hp}:∀ {vs:List V} {ts:List Tm},TmAll K H vs ts→vs.length=ts.length
 | _,_,.nil=>rfl
 | _,_,.cons _ t=>by rw [List.length_cons,List.length_cons,TmAll.length t]
theorem TmAll.get {K:PySem.W.Frag} {H:Hp}:∀ {vs:List V} {ts:List Tm} {i:Nat} {t:Tm},TmAll K H vs ts→ts[i]?=some t→∃ v,vs[i]?=some v∧TmV K H v t
 | _,_,_,_,.nil,e=>by simp at e
 | _,_,0,_,.cons h _,e=>by simp at e;subst e;exact ⟨_,rfl,h⟩
 | _,_,i + 1,t,.cons _ r,e=>by
  obtain ⟨v,h1,h2⟩:=TmAll.get (i:=i) (t:=t) r (by simpa using e)
  exact ⟨v,by simpa using h1,h2⟩
theorem TmAll.append {K:PySem.W.Frag} {H:Hp}:∀ {vs ws:List V} {ts us:List Tm},TmAll K H vs ts→TmAll K H ws us→TmAll K H (vs ++ ws) (ts ++ us)
 | _,_,_,_,.nil,h=>h
 | _,_,_,_,.cons a t,h=>.cons a (TmAll.append t h)
def tdl:Lab→List PyData→PyData
 | .call m b,_=>.tuple [.str YX,.int m,.int b]
 | .put n k a,ds=>.tuple [.str PUT,.str n,.bool k,.int a,.tuple ds]
mutual
def tmd:Tm→PyData
 | .node l _ bs=>tdl l (Uk bs)
def Uk:List Tm→List PyData
 | []=>[]
 | t :: r=>tmd t :: Uk r
end
mutual
theorem TmV.rd {K:PySem.W.Frag} {H:Hp}:∀ {v:V} {t:Tm},TmV K H v t→RdV K H v (tmd t)
 | _,_,.call h=>by
  simp only [tmd,tdl]
  exact .tup h (.cons (.str _) (.cons (.int _) (.cons (.int _) .nil)))
 | _,_,.put h1 h2 h3 _=>by
  simp only [tmd,tdl]
  exact .tup h1 (.cons (.str _) (.cons (.str _) (.cons (.bl _) (.cons (.int _) (.cons (.tup h2 (TmAll.rd h3)) .nil)))))
theorem TmAll.rd {K:PySem.W.Frag} {H:Hp}:∀ {vs:List V} {ts:List Tm},TmAll K H vs ts→RdAll K H vs (Uk ts)
 | _,_,.nil=>by simp only [Uk];exact .nil
 | _,_,.cons h t=>by simp only [Uk];exact .cons (TmV.rd h) (TmAll.rd t)
end
def MOk (d:Nat) (t:Tm):Prop:=(tmd t).canLay0=true∧(tmd t).depth≤d
theorem MOk.mono {d e:Nat} {t:Tm} (h:MOk d t) (hd:d≤e):MOk e t:=⟨h.1,Nat.le_trans h.2 hd⟩
theorem Xi {d:Nat}:∀ ts:List Tm,(∀ t ∈ ts,MOk d t)→PyData.canLayAll0 (Uk ts)=true∧PyData.depthAll (Uk ts)≤d
 | [],_=>by simp [Uk,PyData.canLayAll0,PyData.depthAll]
 | t :: r,h=>by
  obtain ⟨h1,h2⟩:=h t List.mem_cons_self
  obtain ⟨h3,h4⟩:=Xi r fun u hu=>h u (38:)
  simp only [Uk,PyData.canLayAll0,PyData.depthAll,h1,h3,Bool.and_self,true_and]
  lia
theorem Lo:PyData.strOk YX=true:=by decide +kernel
theorem Nc:PyData.strOk PUT=true:=by decide +kernel
theorem Nz (m b:Int) (mk:Int) (bs:List Tm):MOk 1 (.node (.call m b) mk bs):=by
 constructor
 ·simp only [tmd,tdl,PyData.canLay0,PyData.canLayAll0,Lo,Bool.and_self]
 ·simp only [tmd,tdl,PyData.depth,PyData.depthAll];lia
theorem Ph {d:Nat} {n:Str} {k:Bool} {a mk:Int} {ts:List Tm} (hn:PyData.strOk n=true) (h:∀ t ∈ ts,MOk d t):MOk (d + 2) (.node (.put n k a) mk ts):=by
 obtain ⟨h1,h2⟩:=Xi ts h
 constructor
 ·simp only [tmd,tdl,PyData.canLay0,PyData.canLayAll0,h1,hn,Nc,Bool.and_self]
 ·simp only [tmd,tdl,PyData.depth,PyData.depthAll]
  lia
end L2
namespace L2
open PySem PySem.Spec PyProof.Rows PySem.W
section
variable {X:Cx}
end
@[reducible] def strOrd:KeyOrd:=⟨List Nat,fun a b=>decide (a < b),fun a=>strKind.irrefl a,fun a b c=>strKind.trans a b c,fun a b c=>strKind.negTrans a b c,fun a b=>strKind.total a b⟩
abbrev PNx:=Addr × Str × Addr × List Str
def PairN (h:Heap) (t:PNx):Prop:=∃ (tk:Tok) (as:List Addr),h.IsTuple t.1 [Value.str t.2.1 tk,Value.ref t.2.2.1].toArray∧Reads h (.ref t.2.2.1) (.tuple (t.2.2.2.map PyData.str)) as
theorem PairN.keeps {h h':Heap} {t:PNx} (k:∀ b o,h.get? b=some o→h'.get? b=some o) (x:PairN h t):PairN h' t:=by
 obtain ⟨tk,as,h1,h2⟩:=x
 exact ⟨tk,as,IsTuple.keeps k h1,Reads.keeps k h2⟩
theorem YO {K:PySem.W.Frag} {H:Hp}:∀ p:List Str,RdAll K H (p.map V.str) (p.map PyData.str)
 | []=>.nil
 | i :: r=>.cons (.str i) (YO r)
theorem Yc:∀ p:List Str,(∀ x ∈ p,PyData.strOk x=true)→PyData.canLayAll0 (p.map PyData.str)=true
 | [],_=>by simp [PyData.canLayAll0]
 | i :: r,h=>by simp only [List.map_cons,PyData.canLayAll0,PyData.canLay0,Yc r fun x hx=>h x (List.mem_cons_of_mem _ hx),h i List.mem_cons_self,Bool.and_self]
theorem UH {h:Heap}:∀ {ts:List PNx},(∀ t ∈ ts,PairN h t)→∃ fs:List Value,KatTups h (ts.map fun t=>Value.ref t.1) fs∧(∀ v ∈ fs,∃ x t,v=Value.str x t)∧fs.length=ts.length
 | [],_=>⟨[],KatTups.nil,fun v hv=>(nomatch hv),rfl⟩
 | t :: r,ht=>by
  obtain ⟨tk,as,⟨o,go,gc,n,gd⟩,_⟩:=ht t List.mem_cons_self
  obtain ⟨fs,h1,h2,h3⟩:=UH fun u hu=>ht u (38:)
  refine ⟨Value.str t.2.1 tk :: fs,KatTups.cons go gc gd rfl h1,fun v hv=>?_,by simp [h3]⟩
  rcases List.mem_cons.mp hv with rfl | hv
  ·exact ⟨_,_,rfl⟩
  ·exact h2 v hv
section
variable {prog:Program} {w:World} {A:Around} {E:Value→Shared→Prop} {s:Shared}
theorem Lk {t u:PNx} {C:Bool→Shared→Prop} (ht:PairN s.heap t) (hu:PairN s.heap u) (hok:∀ x ∈ t.2.2.2,PyData.strOk x=true) (hd:t.1≠u.1→t.2.1≠u.2.1) (hA:A.units + 2 < cLine) (h:C (decide (t.2.1.cps.toList < u.2.1.cps.toList)) s):wpAny (17:) A (keyLt' (tuples' true) (.ref t.1) (.ref u.1)) C E s:=by
 obtain ⟨tk,as,h1,h4⟩:=ht
 obtain ⟨tk2,as2,g1,g4⟩:=hu
 have lay:(PyData.tuple (t.2.2.2.map PyData.str)).canLay0=true:=by simp only [PyData.canLay0];exact Yc _ hok
 have dep:(PyData.tuple (t.2.2.2.map PyData.str)).depth≤1:=by simp only [PyData.depth,Yx];lia
 refine Nl h1 g1 (fun hne=>?_) (fun heq=>?_)
 ·refine ⟨?_,oneLt_str h⟩
  have e:=(eqGives_str t.2.1 u.2.1 tk tk2).at A s
  have:(t.2.1 == u.2.1)=false:=by simpa using hd hne
  rw [this] at e
  exact e
 ·refine ⟨?_,?_,?_⟩
  ·have e:=(eqGives_str t.2.1 t.2.1 tk tk).at A s
   simpa using e
  ·have e:=SeqAt.eqAt_reads _ _ A s _ _ _ _ h4 h4 lay lay (10:)
   rw [UJ _ lay] at e
   exact e
  ·have e1:t.2.1=u.2.1:=by
    obtain ⟨o,e,_,n,d⟩:=h1
    obtain ⟨o2,e2,_,n2,d2⟩:=g1
    rw [heq,e2] at e
    cases e
    rw [d] at d2
    injection d2 with z1 z2
    have z3:[Value.str t.2.1 tk,Value.ref t.2.2.1]=[Value.str u.2.1 tk2,Value.ref u.2.2.1]:=by simpa using congrArg Array.toList z1
    injection z3 with z4 z5
    injection z4
   rw [← e1,decide_eq_false (List.lt_irrefl _)] at h
   exact h
end
section
variable {X:Cx}
theorem J8 (hu:X.A.units + 4 < cLine):Zs X (.builtin "sorted") (fun xs H Q=>∃ (l:Addr) (ts:List PNx),xs=[.ref l]∧SqL X.K H l (ts.map fun t=>V.ref t.1)∧(∀ t ∈ ts,SqT X.K H t.1 [.str t.2.1,.ref t.2.2.1]∧SqT X.K H t.2.2.1 (t.2.2.2.map V.str)∧∀ x ∈ t.2.2.2,PyData.strOk x=true)∧(ts.map fun t=>t.2.1).Nodup∧ts.length < 64 ∧
 ∀ (out:List PNx) p,out.Perm ts→(out.Pairwise fun x y=>¬ y.2.1.cps.toList < x.2.1.cps.toList)→H p=none→Q (.ref p) (upd H p (.lst (out.map fun t=>V.ref t.1)))):=by
 intro pins s σ H xs us Q I r h
 obtain ⟨l,ts,rfl,hl,ht,hnd,h64,q⟩:=h
 cases r with
 | cons r rr =>
  cases rr
  obtain rfl:_=Value.ref l:=r
  obtain ⟨its,rv,p,_⟩:=I.list hl
  obtain rfl:=Yp rv
  have hP:∀ t ∈ ts,PairN s.heap t:=fun t htm=>by
   obtain ⟨h1,h2,_⟩:=ht t htm
   obtain ⟨its1,r1,p1,_⟩:=I.tuple h1
   obtain ⟨u,v,rfl,ru,rv⟩:=r1.two
   cases (show v=Value.ref _ from rv)
   obtain ⟨tk,rfl⟩:=(show ∃ tk,u=Value.str _ tk from ru)
   obtain ⟨as,q4⟩:=(RdV.tup h2 (YO _)).reads I (show RelV (.ref t.2.2.1) (.ref t.2.2.1) from rfl)
   exact ⟨tk,as,p1,q4⟩
  let d:PNx:=(0,⟨#[]⟩,0,[])
  have gd:∀ i,i < ts.length→(ts.map fun t=>Value.ref t.1).getD i Value.none=.ref (ts.getD i d).1:=fun i hi=>by simp [List.getD_eq_getElem?_getD,hi]
  have md:∀ i,i < ts.length→ts.getD i d ∈ ts:=fun i hi=>by simp [List.getD_eq_getElem?_getD,hi]
  have ek:(Value.type "str" != Value.type "tuple")=true:=by decide +kernel
  refine Vg strOrd (fun i=>(ts.getD i d).2.1.cps.toList) (tuples' true) p.isList (by simpa using h64) (fun s' E' Q' hs h2 hq=>?_) (fun s' i j C hs hi hj hC=>?_) fun pp o1 o2=>?_
  ·obtain ⟨fs,f1,f2,f3⟩:=UH (h:=s'.heap) fun t htm=>(hP t htm).keeps hs
   refine kat_kind (T:=.type "str") f1 (by rw [f3];rw [List.length_map] at h2;lia) (fun v hv=>?_) (0:) (by rw [ek];exact hq)
   obtain ⟨x,t,rfl⟩:=f2 v hv
   exact .now
  ·rw [List.length_map] at hi hj
   rw [gd i hi,gd j hj]
   refine Lk ((hP _ (md i hi)).keeps hs) ((hP _ (md j hj)).keeps hs) (ht _ (md i hi)).2.2 (fun hne he=>hne ?_) (by show X.A.units + 1 + 1 + 2 < cLine;lia) hC
   have hij:i=j:=by
    have a1:(ts.map fun t=>t.2.1)[i]'(by simpa using hi)=(ts.getD i d).2.1:=by simp [List.getD_eq_getElem?_getD,hi]
    have a2:(ts.map fun t=>t.2.1)[j]'(by simpa using hj)=(ts.getD j d).2.1:=by simp [List.getD_eq_getElem?_getD,hj]
    exact (List.getElem_inj hnd).mp (a1.trans (he.trans a2.symm))
   rw [hij]
  ·rw [List.length_map] at o1 o2
   obtain ⟨w1,w2⟩:=N3 (O:=strOrd) (ts:=ts) (d:=d) (key:=fun t=>t.2.1.cps.toList) o1 o2
   have em:(pp.toList.map fun i=>(ts.map fun t=>Value.ref t.1).getD i Value.none)=(pp.toList.map fun i=>ts.getD i d).map fun t=>Value.ref t.1:=by
    rw [List.map_map]
    refine List.map_congr_left fun i hi=>?_
    exact gd i (List.mem_range.mp (o1.mem_iff.mp hi))
   rw [em]
   generalize pp.toList.map (fun i=>ts.getD i d)=out at w1 w2
   obtain ⟨e,he⟩:=sortedAll_at s.heap (ts.map fun t=>Value.ref t.1) (out.map fun t=>Value.ref t.1).toArray
   have hfr:H (s.heap.objs.size + 1)=none:=I.hok.fresh (Nat.le_succ _)
   refine ⟨.ref (s.heap.objs.size + 1),_,I.laid (t':=s.toks) (o:=.lst (out.map fun t=>V.ref t.1)) (fun b o g=>sortedAll_old g) (Nat.le_succ _) ?_,rfl,q out _ w1 (w2.imp fun h=>by simpa using h) hfr⟩
   exact ⟨by rw [List.length_map,w1.length_eq,sizeLine_eq];lia,_,e,JS out,he⟩
end
end L2
namespace L2
open PySem PySem.Spec PyProof.Rows
section
variable {prog:Program} {w:World} {A:Around} {E:Value→Shared→Prop} {s:Shared} {it t:Addr} {i:Nat} {its:Array Value} {x:Value} {Q:Value→Shared→Prop}
theorem ZX (hi:s.heap.IsTupleIter it t i) (ht:s.heap.IsTuple t its) (hx:its[i]?=some x) (q:∀ h',h'.IsTupleIter it t (i + 1)→Heap.SameBut it s.heap h'→Q x { s with heap:=h' }) :
 wpAny (17:) A (Builtin.SmallTypes.nextOf (.ref it)) Q E s:=by
 obtain ⟨oi,gi,ci,di⟩:=id hi
 obtain ⟨ot,gt,_,nt,dt⟩:=ht
 unfold Builtin.SmallTypes.nextOf
 refine wpAny_bind (wpAny_callSpecial?_slot (name:=Str.ofString "__next__") hi.typeIs F.slot_tuple_iterator_next (wpAny_call_entry F.slot_tuple_iterator_next hi.typeIs F.entry_tuple_iterator_next ?_ (F.args_tuple_iterator_next_1 _)))
 show wpAny _ _ (field (.ref it) 0 >>= _) _ _ s
 refine wpAny_bind (wpAny_field gi di (x:=.ref t) rfl ?_)
 show wpAny _ _ (if (Value.ref t == Value.none)=true then _ else _) _ _ s
 rw [if_neg (show ¬ ((Value.ref t == Value.none)=true) from Bool.false_ne_true)]
 show wpAny _ _ (field (.ref it) 1 >>= _) _ _ s
 refine wpAny_bind (wpAny_field gi di (x:=.int i 0) rfl ?_)
 show wpAny _ _ (seqItems? (.ref t) >>= _) _ _ s
 refine wpAny_bind (wpAny_seqItems gt dt ?_)
 simp only [Int.toNat_natCast,hx]
 refine wpAny_bind (wpAny_setField gi di (24:) (wpAny_pure ⟨x,rfl,wpAny_pure (q _ ⟨_,Heap.get?_update_self _ gi (Obj.isFreed_of_fields (Obj.data_mapFields di _)),(Obj.cls_mapFields ..).trans ci,?_⟩ (Heap.SameBut.update ..))⟩))
 rw [Obj.data_mapFields di];simp [rawInt]
theorem Ud (hh:A.handled=none) (hi:s.heap.IsTupleIter it t i) (ht:s.heap.IsTuple t its) (hx:its[i]?=none)
 (q:∀ h' e,Heap.ExtBut it s.heap h'→(∃ o,h'.get? e=some o∧o.cls=.type "StopIteration")→E (.ref e) { s with heap:=h' }):wpAny (17:) A (Builtin.SmallTypes.nextOf (.ref it)) Q E s:=by
 obtain ⟨oi,gi,ci,di⟩:=id hi
 obtain ⟨ot,gt,_,nt,dt⟩:=ht
 unfold Builtin.SmallTypes.nextOf
 refine wpAny_bind (wpAny_callSpecial?_slot (name:=Str.ofString "__next__") hi.typeIs F.slot_tuple_iterator_next (wpAny_call_entry F.slot_tuple_iterator_next hi.typeIs F.entry_tuple_iterator_next ?_ (F.args_tuple_iterator_next_1 _)))
 show wpAny _ _ (field (.ref it) 0 >>= _) _ _ s
 refine wpAny_bind (wpAny_field gi di (x:=.ref t) rfl ?_)
 show wpAny _ _ (if (Value.ref t == Value.none)=true then _ else _) _ _ s
 rw [if_neg (show ¬ ((Value.ref t == Value.none)=true) from Bool.false_ne_true)]
 show wpAny _ _ (field (.ref it) 1 >>= _) _ _ s
 refine wpAny_bind (wpAny_field gi di (x:=.int i 0) rfl ?_)
 show wpAny _ _ (seqItems? (.ref t) >>= _) _ _ s
 refine wpAny_bind (wpAny_seqItems gt dt ?_)
 simp only [Int.toNat_natCast,hx]
 refine wpAny_bind (wpAny_rule (wpAny_bind (wpAny_setField gi di (24:) ?_)))
 show wpAny _ _ (newExc (.type "StopIteration") [] >>= _) _ _ _
 simp only [newExc,newTuple]
 refine wpAny_bind (wpAny_bind (wpAny_newObj_type (wpAny_bind (m:=firstArgMember _ _) (wpAny_of_eq (a:=Value.none) (by first | rfl | (simp only [firstArgMember];rfl)) (wpAny_newObj_type ?_ (by size_fits)))) (by size_fits)))
 simp only [raiseNew]
 refine wpAny_bind (wpAny_handled ?_)
 first | rw [show A.in1.handled=none from hh] | rw [hh]
 exact wpAny_bind (wpAny_pure (wpAny_throw (q _ _ (((Heap.SameBut.update ..).extBut.push _).push _) ⟨_,Heap.get?_push_size _ rfl,rfl⟩)))
end
section
variable {X:Cx} {elts:List Expr} {k1:Nat} {tpos:Pos}
end
end L2
namespace L2
open PySem PySem.Spec PyProof.Rows
section
variable {prog:Program} {w:World} {A:Around} {E:Value→Shared→Prop} {s:Shared}
theorem Go {zp ti tu j1 j2 t1 t2:Addr} {n1 n2:Nat} {us vs:Array Value} {p q c d:Value} {Q:Value→Shared→Prop} (Ap:ZipApart zp ti tu j1 j2 t1 t2)
 (gz:IsZip s.heap zp ti tu .none) (gi:IsPair s.heap ti (.ref j1) (.ref j2)) (gu:IsPair s.heap tu c d)
 (w1:s.heap.IsTupleIter j1 t1 n1) (w2:s.heap.IsTupleIter j2 t2 n2) (l1:s.heap.IsTuple t1 us) (l2:s.heap.IsTuple t2 vs) (ep:us[n1]?=some p) (eq:vs[n2]?=some q)
 (k:∀ h',IsZip h' zp ti tu (rawInt s.heap.objs.size)→IsPair h' tu p q→h'.IsTupleIter j1 t1 (n1 + 1)→h'.IsTupleIter j2 t2 (n2 + 1)→IsPair h' s.heap.objs.size p q →
  (14:)→Q (57:) { s with heap:=h' }) :
 wpAny (17:) A (Builtin.«zip.__next__» ⟨[.ref zp],[]⟩) (fun fin s'=>∃ v,fin=.done (.ret v)∧Q v s') E s:=by
 show wpAny _ _ (field (.ref zp) 2 >>= _) _ _ _
 refine wpAny_bind (wpAny_field gz rfl (x:=.bool false) rfl ?_)
 show wpAny _ _ (field (.ref zp) 3 >>= _) _ _ _
 refine wpAny_bind (wpAny_field gz rfl (x:=.ref ti) rfl ?_)
 refine wpAny_bind (wpAny_seqItems gi rfl ?_)
 show wpAny _ _ (Builtin.SmallTypes.ownedTupleIsFree (.ref zp) >>= _) _ _ _
 refine wpAny_bind ?_;(unfold Builtin.SmallTypes.ownedTupleIsFree);refine wpAny_bind (wpAny_field gz rfl (x:=.none) rfl (wpAny_pure ?_))
 simp only [if_true]
 refine wpAny_bind (wpAny_rule (wpAny_bind (wpAny_field gz rfl (x:=.ref tu) rfl ?_)))
 refine wpAny_bind (wpAny_setField_rec gz (24:) fun ha gza sa=>?_)
 replace gza:IsZip ha zp ti tu .ellipsis:=gza
 refine wpAny_bind ?_
 simp only [List.forIn_cons,List.forIn_nil,List.zipIdx_cons,List.zipIdx_nil]
 refine wpAny_bind (wpAny_bind (wpAny_onRaise ?_))
 show wpAny _ _ (Builtin.SmallTypes.nextOf (.ref j1) >>= _) _ _ _
 refine wpAny_bind (ZX (w1.extBut sa.extBut Ap.i1z) (l1.extBut sa.extBut Ap.l1z) ep fun hb w1b sb=>wpAny_pure ?_)
 have gub:IsPair hb tu c d:=sb.extBut _ _ Ap.TOi1 (sa.extBut _ _ Ap.TOz gu)
 refine wpAny_bind (wpAny_seqItems gub rfl (wpAny_bind (wpAny_updateSeq_pair gub fun hc guc sc=>?_)))
 replace guc:IsPair hc tu p d:=guc
 refine wpAny_bind (wpAny_letGo (wpAny_pure (wpAny_bind (wpAny_bind (wpAny_onRaise ?_)))))
 show wpAny _ _ (Builtin.SmallTypes.nextOf (.ref j2) >>= _) _ _ _
 refine wpAny_bind (ZX (((w2.extBut sa.extBut Ap.i2z).extBut sb.extBut Ap.i12.symm).extBut sc.extBut Ap.TOi2.symm) (((l2.extBut sa.extBut Ap.l2z).extBut sb.extBut Ap.l2i1).extBut sc.extBut Ap.l2TO) eq fun hd w2d sd=>wpAny_pure ?_)
 have gud:IsPair hd tu p d:=sd.extBut _ _ Ap.TOi2 guc
 refine wpAny_bind (wpAny_seqItems gud rfl (wpAny_bind (wpAny_updateSeq_pair gud fun he gue se=>?_)))
 replace gue:IsPair he tu p q:=gue
 refine wpAny_bind (wpAny_letGo (wpAny_pure (wpAny_pure (wpAny_bind (wpAny_seqItems gue rfl (wpAny_bind (wpAny_newTuple ?_)))))))
 have size5:he.objs.size=s.heap.objs.size:=by rw [se.1,sd.1,sc.1,sb.1,sa.1]
 have gze:IsZip he zp ti tu .ellipsis:=se.extBut _ _ Ap.TOz.symm (sd.extBut _ _ Ap.i2z.symm (sc.extBut _ _ Ap.TOz.symm (sb.extBut _ _ Ap.i1z.symm gza)))
 have kept5:∀ b o,b≠zp→b≠tu→b≠j1→b≠j2→s.heap.get? b=some o→he.get? b=some o:=fun b o b1 b2 b3 b4 e=>se.extBut _ _ b2 (sd.extBut _ _ b4 (sc.extBut _ _ b2 (sb.extBut _ _ b3 (sa.extBut _ _ b1 e))))
 have w1e:he.IsTupleIter j1 t1 (n1 + 1):=((w1b.extBut sc.extBut Ap.TOi1.symm).extBut sd.extBut Ap.i12).extBut se.extBut Ap.TOi1.symm
 have w2e:he.IsTupleIter j2 t2 (n2 + 1):=w2d.extBut se.extBut Ap.TOi2.symm
 have lz:zp < he.objs.size:=Heap.lt_size gze
 show wpAny _ _ (Builtin.SmallTypes.ownedTupleHandOut (.ref zp) (.ref he.objs.size) >>= _) _ _ _
 refine wpAny_bind ?_;(unfold Builtin.SmallTypes.ownedTupleHandOut)
 have gzf:IsZip (he.push { cls:=.type "tuple", data:=.seq #[p,q] }) zp ti tu .ellipsis:=Heap.get?_push_of_some _ gze
 refine wpAny_bind (wpAny_setField_rec gzf (24:) fun hg gzg sg=>?_)
 replace gzg:IsZip hg zp ti tu (rawInt he.objs.size):=gzg
 refine wpAny_setField_rec gzg (24:) fun hh gzh sh=>?_
 replace gzh:IsZip hh zp ti tu (rawInt he.objs.size):=gzh
 have upw:∀ b o,b≠zp→he.get? b=some o→hh.get? b=some o:=fun b o b1 e=>sh.extBut _ _ b1 (sg.extBut _ _ b1 (Heap.get?_push_of_some _ e))
 have gnew:IsPair hh he.objs.size p q:=sh.extBut _ _ (Nat.ne_of_gt lz) (sg.extBut _ _ (Nat.ne_of_gt lz) (46:))
 rw [size5] at gzh gnew
 refine wpAny_pure ⟨_,rfl,?_⟩
 show Q (.ref he.objs.size) _
 rw [size5]
 exact k hh gzh (upw _ _ Ap.TOz gue) (w1e.at fun o e=>upw _ o Ap.i1z e) (w2e.at fun o e=>upw _ o Ap.i2z e) gnew fun b o b1 b2 b3 b4 e=>upw b o b1 (kept5 b o b1 b2 b3 b4 e)
theorem GR {zp ti tu j1 j2 t1 t2:Addr} {n1 n2:Nat} {us vs:Array Value} {c d:Value} {Q:Fin→Shared→Prop} (hh:A.handled=none) (Ap:ZipApart zp ti tu j1 j2 t1 t2)
 (gz:IsZip s.heap zp ti tu .none) (gi:IsPair s.heap ti (.ref j1) (.ref j2)) (gu:IsPair s.heap tu c d)
 (w1:s.heap.IsTupleIter j1 t1 n1) (l1:s.heap.IsTuple t1 us) (ep:us[n1]?=none)
 (k:∀ h' e,(14:)→(∃ o,h'.get? e=some o∧o.cls=.type "StopIteration")→E (.ref e) { s with heap:=h' }) :
 wpAny (17:) A (Builtin.«zip.__next__» ⟨[.ref zp],[]⟩) Q E s:=by
 show wpAny _ _ (field (.ref zp) 2 >>= _) _ _ _
 refine wpAny_bind (wpAny_field gz rfl (x:=.bool false) rfl ?_)
 show wpAny _ _ (field (.ref zp) 3 >>= _) _ _ _
 refine wpAny_bind (wpAny_field gz rfl (x:=.ref ti) rfl ?_)
 refine wpAny_bind (wpAny_seqItems gi rfl ?_)
 show wpAny _ _ (Builtin.SmallTypes.ownedTupleIsFree (.ref zp) >>= _) _ _ _
 refine wpAny_bind ?_;(unfold Builtin.SmallTypes.ownedTupleIsFree);refine wpAny_bind (wpAny_field gz rfl (x:=.none) rfl (wpAny_pure ?_))
 simp only [if_true]
 refine wpAny_bind (wpAny_rule (wpAny_bind (wpAny_field gz rfl (x:=.ref tu) rfl ?_)))
 refine wpAny_bind (wpAny_setField_rec gz (24:) fun ha gza sa=>?_)
 replace gza:IsZip ha zp ti tu .ellipsis:=gza
 refine wpAny_bind ?_
 simp only [List.forIn_cons,List.forIn_nil,List.zipIdx_cons,List.zipIdx_nil]
 refine wpAny_bind (wpAny_bind (wpAny_onRaise ?_))
 show wpAny _ _ (Builtin.SmallTypes.nextOf (.ref j1) >>= _) _ _ _
 refine wpAny_bind (Ud hh (w1.extBut sa.extBut Ap.i1z) (l1.extBut sa.extBut Ap.l1z) ep fun hb e sb ge=>?_)
 obtain ⟨oe,hoe,hce⟩:=ge
 have gzb:IsZip hb zp ti tu .ellipsis:=sb _ _ Ap.i1z.symm gza
 have nez:e≠zp:=fun x=>by subst x;rw [gzb] at hoe;cases hoe;simp at hce
 refine wpAny_setField_rec gzb (24:) fun hc _ sc=>k hc e (fun b o b1 _ b3 _ x=>sc.extBut _ _ b1 (sb _ _ b3 (sa.extBut _ _ b1 x))) ⟨oe,sc.extBut _ _ nez hoe,hce⟩
theorem Y4 {zp ti tu j1 j2 t1 t2:Addr} {n1 n2:Nat} {us vs:Array Value} {p q c d:Value} {Q:Option Value→Shared→Prop} (Ap:ZipApart zp ti tu j1 j2 t1 t2)
 (gz:IsZip s.heap zp ti tu .none) (gi:IsPair s.heap ti (.ref j1) (.ref j2)) (gu:IsPair s.heap tu c d)
 (w1:s.heap.IsTupleIter j1 t1 n1) (w2:s.heap.IsTupleIter j2 t2 n2) (l1:s.heap.IsTuple t1 us) (l2:s.heap.IsTuple t2 vs) (ep:us[n1]?=some p) (eq:vs[n2]?=some q)
 (k:∀ h',IsZip h' zp ti tu (rawInt s.heap.objs.size)→IsPair h' tu p q→h'.IsTupleIter j1 t1 (n1 + 1)→h'.IsTupleIter j2 t2 (n2 + 1)→IsPair h' s.heap.objs.size p q →
  (14:)→Q (some (57:)) { s with heap:=h' }) :
 wpAny (17:) A (pyNext (.ref zp)) Q E s:=by
 have tz:s.TypeIs (.ref zp) "zip" := ⟨_,gz,rfl⟩
 unfold pyNext
 exact wpAny_bind (wpAny_attempt (wpAny_callSpecial?_slot (name:=Str.ofString "__next__") tz F.slot_zip_next (wpAny_call_entry F.slot_zip_next tz F.entry_zip_next (Go Ap gz gi gu w1 w2 l1 l2 ep eq fun h' a1 a2 a3 a4 a5 a6=>wpAny_pure (k h' a1 a2 a3 a4 a5 a6)) (F.args_zip_next_1 _))))
theorem Ul {zp ti tu j1 j2 t1 t2:Addr} {n1 n2:Nat} {us:Array Value} {c d:Value} {Q:Option Value→Shared→Prop} (hh:A.handled=none) (Ap:ZipApart zp ti tu j1 j2 t1 t2)
 (gz:IsZip s.heap zp ti tu .none) (gi:IsPair s.heap ti (.ref j1) (.ref j2)) (gu:IsPair s.heap tu c d) (w1:s.heap.IsTupleIter j1 t1 n1) (l1:s.heap.IsTuple t1 us) (ep:us[n1]?=none)
 (k:∀ h',(14:)→Q none { s with heap:=h' }):wpAny (17:) A (pyNext (.ref zp)) Q E s:=by
 have tz:s.TypeIs (.ref zp) "zip" := ⟨_,gz,rfl⟩
 unfold pyNext
 refine wpAny_bind (wpAny_attempt (wpAny_callSpecial?_slot (name:=Str.ofString "__next__") tz F.slot_zip_next (wpAny_call_entry F.slot_zip_next tz F.entry_zip_next (GR hh (n2:=n2) (vs:=us) Ap gz gi gu w1 l1 ep fun h' e hk ge=>?_) (F.args_zip_next_1 _))))
 obtain ⟨o,ho,hc⟩:=ge
 exact wpAny_bind (wpAny_isInstance (T:="StopIteration") (b:=true) ⟨o,ho,hc⟩ isSubtype_stop (wpAny_pure (k _ hk)))
abbrev zT1 (h:Heap) (t1:Addr):Heap:=h.push { cls:=.type "tuple_iterator", data:=.fields #[.ref t1,.int 0 0] }
abbrev zT2 (h:Heap) (t1 t2:Addr):Heap:=(zT1 h t1).push { cls:=.type "tuple_iterator", data:=.fields #[.ref t2,.int 0 0] }
abbrev zT3 (h:Heap) (t1 t2:Addr):Heap:=(zT2 h t1 t2).push { cls:=.type "tuple", data:=.seq #[.ref h.objs.size,.ref (zT1 h t1).objs.size] }
abbrev zT4 (h:Heap) (t1 t2:Addr):Heap:=(zT3 h t1 t2).push { cls:=.type "tuple", data:=.seq #[.none,.none] }
abbrev zT5 (h:Heap) (t1 t2:Addr):Heap:=(zT4 h t1 t2).push { cls:=.type "zip", data:=.fields #[.none,.bool false,.bool false,.ref (zT2 h t1 t2).objs.size,.ref (zT3 h t1 t2).objs.size] }
theorem LA (t1 t2:Addr) (us vs:Array Value) :
 Meets (Builtin.«zip.__new__» ⟨[.type "zip", .ref t1,.ref t2],[]⟩) (fun _ R s=>s.heap.IsTuple t1 us∧s.heap.IsTuple t2 vs ∧
  R (.ok (.ret (.ref (zT4 s.heap t1 t2).objs.size))) { s with heap:=zT5 s.heap t1 t2 }) :=
 .of_wp fun prog w A R s h=>by
  obtain ⟨hp,g,d,tk,os⟩:=s;obtain ⟨l1,l2,h⟩:=h
  have hsub:=sub_zip
  have L1:Heap.IsTuple (Shared.heap ⟨hp,g,d,tk,os⟩) t1 us:=l1
  have L2:Heap.IsTuple (Shared.heap ⟨hp.push { cls:=.type "tuple_iterator", data:=.fields #[.ref t1,.int 0 0] },g,d,tk,os⟩) t2 vs:=let ⟨o,e,r⟩:=l2;⟨o,Heap.get?_push_of_some _ e,r⟩
  wp_walk using wpAny_pyIter_tuple L1,wpAny_pyIter_tuple L2
  exact ⟨_,rfl,h⟩
theorem Gy {t1 t2:Addr} {us vs:Array Value} {Q:Value→Shared→Prop} (l1:s.heap.IsTuple t1 us) (l2:s.heap.IsTuple t2 vs)
 (h:∀ h',IsZip h' (s.heap.objs.size + 4) (s.heap.objs.size + 2) (s.heap.objs.size + 3) .none→IsPair h' (s.heap.objs.size + 2) (57:) (.ref (s.heap.objs.size + 1)) →
  IsPair h' (s.heap.objs.size + 3) .none .none→h'.IsTupleIter s.heap.objs.size t1 0→h'.IsTupleIter (s.heap.objs.size + 1) t2 0 →
  (∀ c o,s.heap.get? c=some o→h'.get? c=some o)→Q (.ref (s.heap.objs.size + 4)) { s with heap:=h' }) :
 wpAny (17:) A (call (.type "zip") [.ref t1,.ref t2]) Q E s:=by
 refine callType_new F.called_zip (27:) (F.typeCall_zip_2 _ _) (F.newCall_zip_2 _ _) (fun obj=>F.args_object_init_3 obj _ _) F.entry_zip_new (LA t1 t2 us vs) ⟨l1,l2,?_⟩
 have q1:(zT1 s.heap t1).objs.size=s.heap.objs.size + 1:=Heap.size_push ..
 have q2:(zT2 s.heap t1 t2).objs.size=s.heap.objs.size + 2:=by rw [Heap.size_push,q1]
 have q3:(zT3 s.heap t1 t2).objs.size=s.heap.objs.size + 3:=by rw [Heap.size_push,q2]
 have q4:(zT4 s.heap t1 t2).objs.size=s.heap.objs.size + 4:=by rw [Heap.size_push,q3]
 have r5:(zT5 s.heap t1 t2).get? (zT4 s.heap t1 t2).objs.size=some _:=Heap.get?_push_size _ rfl
 have r4:(zT5 s.heap t1 t2).get? (zT3 s.heap t1 t2).objs.size=some _:=Heap.get?_push_of_some _ (46:)
 have r3:(zT5 s.heap t1 t2).get? (zT2 s.heap t1 t2).objs.size=some _:=Heap.get?_push_of_some _ (Heap.get?_push_of_some _ (46:))
 have r2:(zT5 s.heap t1 t2).get? (zT1 s.heap t1).objs.size=some _:=Heap.get?_push_of_some _ (Heap.get?_push_of_some _ (Heap.get?_push_of_some _ (46:)))
 have r1:(zT5 s.heap t1 t2).get? s.heap.objs.size=some _:=Heap.get?_push_of_some _ (Heap.get?_push_of_some _ (Heap.get?_push_of_some _ (Heap.get?_push_of_some _ (46:))))
 show _∧_
 rw [q2,q3,q4] at r5
 rw [q1,q2] at r3
 rw [q3] at r4
 rw [q1] at r2
 rw [q4]
 exact ⟨⟨_,r5,rfl⟩,h _ r5 r3 r4 ⟨_,r1,rfl,rfl⟩ ⟨_,r2,rfl,rfl⟩ fun b o x=>Heap.get?_push_of_some _ (Heap.get?_push_of_some _ (Heap.get?_push_of_some _ (Heap.get?_push_of_some _ (Heap.get?_push_of_some _ x))))⟩
end
def VZ (K:PySem.W.Frag) (a b:Addr) (xs ys:List V):It :=
 ⟨fun i H=>SqT K H a xs∧SqT K H b ys∧i < xs.length∧i < ys.length,fun i H x H'=>∃ p u v,H p=none∧x=.ref p∧H'=upd H p (.tup [u,v])∧xs[i]?=some u∧ys[i]?=some v,fun i H=>SqT K H a xs∧xs.length≤i⟩
theorem Gv {P:Program} {w:World} {K:PySem.W.Frag} {elts:List Expr} {k1:Nat} {pos:Pos} (a b z:Addr) (xs ys:List V) (TI TO i1 i2:Addr) (Ap:ZipApart z TI TO i1 i2 a b) :
 Turn P w K (.Tuple elts k1 pos) (VZ K a b xs ys) [z,TI,TO,i1,i2] z (fun i h=>IsZip h z TI TO .none∧IsPair h TI (.ref i1) (.ref i2)∧(∃ u v,IsPair h TO u v)∧h.IsTupleIter i1 a i∧h.IsTupleIter i2 b i) where
 mem:=by simp
 obj:=fun i h st c hc=>by
  obtain ⟨hz,hTI,⟨u,v,hTO⟩,h1,h2⟩:=st
  simp only [List.mem_cons,List.mem_nil_iff,or_false] at hc
  rcases hc with rfl | rfl | rfl | rfl | rfl
  ·exact ⟨_,hz,fun v z=>by have z':Data.fields _=Data.cell v:=z;cases z'⟩
  ·exact ⟨_,hTI,fun v z=>by have z':Data.seq _ _=Data.cell v:=z;cases z'⟩
  ·exact ⟨_,hTO,fun v z=>by have z':Data.seq _ _=Data.cell v:=z;cases z'⟩
  ·obtain ⟨o,e,c,d⟩:=h1;exact (48:)
  ·obtain ⟨o,e,c,d⟩:=h2;exact (48:)
 keep:=fun i h h' st k=>by
  obtain ⟨hz,hTI,⟨u,v,hTO⟩,h1,h2⟩:=st
  exact (52:)
 item:=by
  intro X hP hw hK hc i pins s σ H E I hf st hg
  subst hP hw hK
  obtain ⟨hz,hTI,⟨u0,v0,hTO⟩,h1,h2⟩:=st
  obtain ⟨qa,qb,lx,ly⟩:=hg
  obtain ⟨its,rv,p,_⟩:=I.tuple qa
  obtain ⟨its2,rv2,p2,_⟩:=I.tuple qb
  have ex:xs[i]?=some xs[i]:=List.getElem?_eq_getElem lx
  have ey:ys[i]?=some ys[i]:=List.getElem?_eq_getElem ly
  obtain ⟨u,hu,ru⟩:=rv.get ex
  obtain ⟨v,hv,rv'⟩:=rv2.get ey
  refine Y4 Ap hz hTI hTO h1 h2 p p2 (p:=u) (q:=v) (by simpa using hu) (by simpa using hv) fun h' a1 a2 a3 a4 a5 hk=>?_
  refine ⟨.ref s.heap.objs.size,rfl,wpAny_letOwnedTupleGo_zip (s:={ s with heap:=h' }) a1 fun h'' hz' hs'=>?_⟩
  have lt:∀ {c o},s.heap.get? c=some o→c≠s.heap.objs.size:=fun e=>Nat.ne_of_lt (58:)
  have e5:IsPair h'' s.heap.objs.size u v:=(hs'.2 _ (Ne.symm (lt hz))).trans a5
  have hch:∀ c ∈ [z,TO,i1,i2],YC X pins H c:=fun c hc=>hf c (by
   simp only [List.mem_cons,List.mem_nil_iff,or_false] at hc ⊢
   rcases hc with rfl | rfl | rfl | rfl <;> simp)
  have I2:Inv X pins σ (upd H s.heap.objs.size (.tup [xs[i],ys[i]])) { s with heap:=h'',toks:=s.toks }:=by
   refine I.turnedNew (ch:=[z,TO,i1,i2]) (fun c o hc e=>?_) hch (7:) ⟨by show 2≤sizeLine;decide,[u,v],.cons ru (.cons rv' .nil),⟨_,e5,rfl,_,rfl⟩⟩
   simp only [List.mem_cons,List.mem_nil_iff,or_false,not_or] at hc
   exact (hs'.2 c hc.1).trans (hk c o hc.1 hc.2.1 hc.2.2.1 hc.2.2.2 e)
  have hfr:∀ c ∈ [z,TI,TO,i1,i2],upd H s.heap.objs.size (.tup [xs[i],ys[i]]) c=none:=fun c hc=>by
   have hc2:=hf c hc
   have:c≠s.heap.objs.size:=by
    simp only [List.mem_cons,List.mem_nil_iff,or_false] at hc
    rcases hc with rfl | rfl | rfl | rfl | rfl
    ·exact lt hz
    ·exact lt hTI
    ·exact lt hTO
    ·obtain ⟨o,e,_⟩:=h1;exact lt e
    ·obtain ⟨o,e,_⟩:=h2;exact lt e
   rw [Qg this];exact hc2.1
  exact (19:)
 done:=by
  intro X hP hw hK hc i pins s σ H E I hf st hg
  subst hP hw hK
  obtain ⟨hz,hTI,⟨u0,v0,hTO⟩,h1,h2⟩:=st
  obtain ⟨qa,hl⟩:=hg
  obtain ⟨its,rv,p,_⟩:=I.tuple qa
  have l1:=rv.length
  have hch:∀ c ∈ [z,TO,i1,i2],YC X pins H c:=fun c hc=>hf c (by
   simp only [List.mem_cons,List.mem_nil_iff,or_false] at hc ⊢
   rcases hc with rfl | rfl | rfl | rfl <;> simp)
  refine Ul (n2:=0) (I.ok.hd hc) Ap hz hTI hTO h1 p (by simp;lia) fun h' hk=>⟨rfl,I.turnedL (t':=s.toks) (ch:=[z,TO,i1,i2]) (fun c o hc e=>?_) hch⟩
  simp only [List.mem_cons,List.mem_nil_iff,or_false,not_or] at hc
  exact hk c o hc.1 hc.2.1 hc.2.2.1 hc.2.2.2 e
 self:=fun _ _ _ _ _ st h=>wpAny_pyIter_zip st.1 h
section
variable {X:Cx} {elts:List Expr} {k1:Nat} {tpos:Pos}
def Re (K:PySem.W.Frag) (ta:TA):TI:=fun σ H R=>ta σ H fun vs H1=>∃ a b xs ys,vs=[.ref a,.ref b]∧SqT K H1 a xs∧SqT K H1 b ys∧R (VZ K a b xs ys) H1
theorem Vp {e1 e2:Expr} {ta:TA} {p pos:Pos} (hg:Gl X "zip") (hm:X.mg "zip" = none) (ha:PA X [e1,e2] ta) (hs:starEach [e1,e2] X.env=[(false,eval e1 X.env),(false,eval e2 X.env)]:=by rfl) (hs2:starEach [e2] X.env=[(false,eval e2 X.env)]:=by rfl) :
 PI X (.Tuple elts k1 tpos) (.Call (.Name "zip" p) [e1,e2] [] pos) (Re X.K ta):=by
 intro pins s σ H R I h
 refine Call_ (ZU I hg hm PyProof.Rows.boot_zip (PyProof.Rows.callWith_type1 (50:) (by rw [hs,hs2]) (by rw [hs2];rfl)))
 obtain ⟨a,b,xs,ys,e,qa,qb,q⟩:=q1
 subst e
 obtain ⟨u1,u2,e3,r3,r4⟩:=r1.two
 subst e3
 cases (show u1=Value.ref a from r3)
 cases (show u2=Value.ref b from r4)
 obtain ⟨its,rv,pl,_⟩:=I1.tuple qa
 obtain ⟨its2,rv2,pl2,_⟩:=I1.tuple qb
 have la:@LT.lt Nat _ a s1.heap.objs.size:=by obtain ⟨o,e,_⟩:=pl;exact Heap.lt_size e
 have lb:@LT.lt Nat _ b s1.heap.objs.size:=by obtain ⟨o,e,_⟩:=pl2;exact Heap.lt_size e
 refine Gy pl pl2 fun h' hz hTI hTO h1 h2 hk=>?_
 refine wpAny_pyIter_zip hz ?_
 have I2:Inv X pins σ H1 { s1 with heap:=h' }:=I1.kept (t':=s1.toks) hk
 refine ⟨s1.heap.objs.size + 4,[s1.heap.objs.size + 4,s1.heap.objs.size + 2,s1.heap.objs.size + 3,s1.heap.objs.size,s1.heap.objs.size + 1],_,_,H1,rfl,I2,Gv a b (s1.heap.objs.size + 4) xs ys (s1.heap.objs.size + 2) (s1.heap.objs.size + 3) s1.heap.objs.size (s1.heap.objs.size + 1) ?_,⟨hz,hTI,⟨_,_,hTO⟩,h1,h2⟩,fun c hc=>?_,q⟩
 ·constructor <;> (refine nne ?_;lia)
 ·have hle:@LE.le Nat _ s1.heap.objs.size c:=by
   simp only [List.mem_cons,List.mem_nil_iff,or_false] at hc
   rcases hc with rfl | rfl | rfl | rfl | rfl <;> lia
  exact I1.fpOk hle (I1.hok.fresh hle)
end
theorem NX {K:PySem.W.Frag} {a b acc:Addr} {xs zs:List V} {tt:TT} {te:TE} {cs:St} {H1:Hp} {Q:Hp→Prop} (hlen:xs.length=zs.length) (Pv:Nat→List V→Hp→Prop) (h0:Pv 0 [] (upd H1 acc (.lst []))) (hl:∀ i ys H,i≤xs.length→Pv i ys H→SqT K H a xs∧SqT K H b zs)
 (hs:∀ i u v p ys H,i < xs.length→xs[i]?=some u→zs[i]?=some v→H p=none→Pv i ys H→tt (some u :: some v :: cs) (upd H p (.tup [u,v])) (Gc xs.length Pv acc i te (some u :: some v :: cs))) (hd:∀ ys H,Pv xs.length ys H→Q H):Ja (VZ K a b xs zs) 2 cs (Ls K 2 (YW (Zd 0) (YW (Zd 1) MX))) tt te H1 acc Q:=by
 refine Q6 (N:=xs.length) Pv h0 (fun ys H p=>?_) fun i ys H hi p=>?_
 ·obtain ⟨qa,qb⟩:=hl _ _ _ (7:) p
  exact ⟨⟨qa,Nat.le_refl _⟩,hd ys H p⟩
 ·obtain ⟨qa,qb⟩:=hl _ _ _ (Nat.le_of_lt hi) p
  refine ⟨⟨qa,qb,hi,by lia⟩,?_⟩
  rintro x H3 ⟨q,u,v,hq,rfl,rfl,hu,hv⟩ as has
  obtain ⟨a0,a1,rfl⟩:=J2 has
  exact ⟨q,[u,v],rfl,SqT.of Qb,rfl,u,[v],rfl,v,[],rfl,rfl,⟨[some u,some v],rfl,rfl⟩,hs i u v q ys _ hi hu hv hq p⟩
end L2
namespace L2
open PySem PySem.Spec PyProof.Rows
def RQ (K:PySem.W.Frag):R2:=fun x y H Q=>∃ l b xs zs,x=.ref l∧y=.ref b∧SqL K H l xs∧SqL K H b zs∧xs.length + zs.length≤sizeLine∧∀ p,H p=none→Q (.ref p) (upd H p (.lst (xs ++ zs)))
theorem VA {X:Cx}:OpR X (binaryOp .Add) (RQ X.K):=by
 intro pins s σ H x y v u Q I rx ry h
 obtain ⟨l,b,xs,zs,rfl,rfl,ha,hb,hz,q⟩:=h
 cases rx
 cases ry
 obtain ⟨its,r1,⟨⟨c1,d1,t1,s1⟩,n1,g1,e1,f1,k1⟩,_⟩:=I.list ha
 obtain ⟨its2,r2,⟨⟨c2,d2,t2,s2⟩,n2,g2,e2,f2,k2⟩,_⟩:=I.list hb
 simp only at e1 f1 k1 e2 f2 k2
 subst e1 f1 k1 e2 f2 k2
 have l1:=r1.length
 have l2:=r2.length
 refine concat_meets ⟨_,g1,rfl⟩ ⟨_,g2,rfl⟩ noFill_list_add seq_list_add PySem.F.slot_list_add PySem.F.entry_list_add (PySem.F.args_list_add_2 _ _) (list_addW l b _ _ n1 n2 none none s1 s2 (by rw [List.size_toArray,List.size_toArray];lia)) ⟨g1,g2,?_⟩
 have ea:its.toArray ++ its2.toArray=(its ++ its2).toArray:=by simp
 rw [ea]
 exact ⟨.ref _,_,I.lnew (t':=s.toks) (r1.append r2) (by rw [List.length_append];lia),rfl,q _ I.fresh⟩
theorem MJ (xs:List V) (k:Nat):cutV xs none (some (k:Int))=xs.take k:=by
 unfold cutV
 rw [HT.sIx_none,HT.sIx_nat,List.drop_zero,Nat.sub_zero]
 by_cases h:k≤xs.length
 ·rw [Nat.min_eq_left h]
 ·rw [Nat.min_eq_right (10:),List.take_of_length_le (7:),List.take_of_length_le (10:)]
theorem YV {n k:Nat} (h:k < n):ixN n (k:Int)=some k:=by
 unfold ixN
 rw [if_pos (10:),if_pos (10:)];simp
theorem QO:sizeLine=16777216:=by decide
theorem Q7 {n:Nat} (h:n≤5000):n≤sizeLine:=by rw [QO];lia
end L2
namespace K9
open PySem L2 TM
mutual
def isT (f:Str→Str→Option (List Str)):Tree Str→Str→Bool
 | .node n _ bs,k=>match f k n with
  | none=>false
  | some ss=>decide (ss.length=bs.length) && ZA f bs ss
def ZA (f:Str→Str→Option (List Str)):List (Tree Str)→List Str→Bool
 | [],ss=>ss.isEmpty
 | b :: bs,ss=>match ss with
  | []=>false
  | s :: r=>isT f b s && ZA f bs r
end
theorem Ub (f:Str→Str→Option (List Str)) {t:Tree Str} {n:Str} {m:Int} {bs:List (Tree Str)} (e:t=.node n m bs) (k:Str):isT f t k=match f k n with
 | none=>false
 | some ss=>decide (ss.length=bs.length) && ZA f bs ss:=by subst e;simp only [isT]
theorem X1 (f:Str→Str→Option (List Str)):∀ (bs:List (Tree Str)) (ss:List Str),ss.length=bs.length→ZA f bs ss=(List.zipWith (fun s b=>isT f b s) ss bs).all id
 | [],[],_=>by simp [ZA]
 | [],_ :: _,h=>by simp at h
 | _ :: _,[],h=>by simp at h
 | b :: bs,s :: ss,h=>by
  simp only [ZA,List.zipWith_cons_cons,List.all_cons,id]
  rw [X1 f bs ss (by simpa using h)]
mutual
def td:Tree Str→PyData
 | .node n m bs=>.tuple [.str n,.int m,.tuple (tds bs)]
def tds:List (Tree Str)→List PyData
 | []=>[]
 | t :: r=>td t :: tds r
end
mutual
theorem TrV.rd {K:PySem.W.Frag} {H:Hp}:∀ {v:V} {t:Tree Str},TrV K H v t→RdV K H v (td t)
 | _,_,.mk h1 h2 h3 _=>by
  simp only [td]
  exact .tup h1 (.cons (.str _) (.cons (.int _) (.cons (.tup h2 (TrAll.rd h3)) .nil)))
theorem TrAll.rd {K:PySem.W.Frag} {H:Hp}:∀ {vs:List V} {ts:List (Tree Str)},TrAll K H vs ts→RdAll K H vs (tds ts)
 | _,_,.nil=>by simp only [tds];exact .nil
 | _,_,.cons h t=>by simp only [tds];exact .cons (TrV.rd h) (TrAll.rd t)
end
def LayT (t:Tree Str):Prop:=(td t).canLay0=true
theorem Xw:∀ ts:List (Tree Str),(∀ t ∈ ts,LayT t)→PyData.canLayAll0 (tds ts)=true
 | [],_=>by simp [tds,PyData.canLayAll0]
 | t :: r,h=>by
  have h1:(td t).canLay0=true:=h t List.mem_cons_self
  simp only [tds,PyData.canLayAll0,h1,Xw r fun u hu=>h u (38:),Bool.and_self]
theorem LayT.node {n:Str} {m:Int} {ts:List (Tree Str)} (hn:PyData.strOk n=true) (h:∀ t ∈ ts,LayT t):LayT (.node n m ts):=by
 unfold LayT
 simp only [td,PyData.canLay0,PyData.canLayAll0,hn,Xw ts h,Bool.and_self]
theorem U9:∀ ts:List (Tree Str),PyData.canLayAll0 (tds ts)=true→∀ t ∈ ts,LayT t
 | [],_=>fun t ht=>by cases ht
 | u :: r,h=>fun t ht=>by
  simp only [tds,PyData.canLayAll0,Bool.and_eq_true] at h
  rcases List.mem_cons.mp ht with rfl | ht
  ·exact h.1
  ·exact U9 r h.2 t ht
theorem LayT.bs {t:Tree Str} (h:LayT t):∀ u ∈ t.bs,LayT u:=by
 cases t with
 | node n m bs =>
  unfold LayT at h
  simp only [td,PyData.canLay0,PyData.canLayAll0,Bool.and_eq_true] at h
  exact U9 bs h.2.2.1
abbrev KdT:=Addr × Str × Addr × List PNx
def RowAt (K:PySem.W.Frag) (H:Hp) (t:PNx):Prop:=SqT K H t.1 [.str t.2.1,.ref t.2.2.1]∧SqT K H t.2.2.1 (t.2.2.2.map V.str)
def RowsL (K:PySem.W.Frag) (H:Hp) (lr:Addr) (rs:List PNx):Prop:=SqL K H lr (rs.map fun t=>V.ref t.1)∧∀ t ∈ rs,RowAt K H t
def WoodAt (K:PySem.W.Frag) (H:Hp) (w:Addr) (ks:List KdT):Prop:=SqL K H w (ks.map fun k=>V.ref k.1)∧∀ k ∈ ks,SqT K H k.1 [.str k.2.1,.ref k.2.2.1]∧RowsL K H k.2.2.1 k.2.2.2
theorem RowAt.same {K:PySem.W.Frag} {H H':Hp} {t:PNx} (g:Same H H') (h:RowAt K H t):RowAt K H' t:=⟨g.seqT h.1,g.seqT h.2⟩
theorem RowsL.same {K:PySem.W.Frag} {H H':Hp} {lr:Addr} {rs:List PNx} (g:Same H H') (h:RowsL K H lr rs):RowsL K H' lr rs:=⟨g.seq h.1,fun t ht=>(h.2 t ht).same g⟩
theorem WoodAt.same {K:PySem.W.Frag} {H H':Hp} {w:Addr} {ks:List KdT} (g:Same H H') (h:WoodAt K H w ks):WoodAt K H' w ks:=⟨g.seq h.1,fun k hk=>⟨g.seqT (h.2 k hk).1,(h.2 k hk).2.same g⟩⟩
structure RowsOk (rs:List PNx):Prop where
 nd:(rs.map fun t=>t.2.1).Nodup
 len:rs.length≤10
 nm:∀ r ∈ rs,PyData.strOk r.2.1=true
 kn:∀ r ∈ rs,∀ x ∈ r.2.2.2,PyData.strOk x=true
 kl:∀ r ∈ rs,r.2.2.2.length≤4
structure WoodOk (ks:List KdT):Prop where
 nd:(ks.map fun k=>k.2.1).Nodup
 len:ks.length≤10
 rows:∀ k ∈ ks,RowsOk k.2.2.2
def Qy (ks:List KdT) (kind:Str):List PNx:=((ks.find? fun k=>decide (k.2.1=kind)).map fun k=>k.2.2.2).getD []
def QD (ks:List KdT) (kind name:Str):Option (List Str):=((Qy ks kind).find? fun r=>decide (r.2.1=name)).map fun r=>r.2.2.2
theorem Uw {α:Type} (f:α→Str) (g:α→V) (z:Str):∀ l:List α,Zp (l.map fun x=>((Sum.inr (f x):Key),g x)) (Sum.inr z)=(l.find? fun x=>decide (f x=z)).map g
 | []=>rfl
 | x :: r=>by
  rw [List.map_cons,List.find?_cons]
  by_cases e:f x=z
  ·rw [ZM (p:=((Sum.inr (f x):Key),g x)) (by rw [e]),decide_eq_true e];rfl
  ·rw [Zr (p:=((Sum.inr (f x):Key),g x)) (fun q=>e (by injection q)),decide_eq_false e]
   exact Uw f g z r
theorem Z8 {ks:List KdT} (h:WoodOk ks) (kind:Str):RowsOk (Qy ks kind):=by
 unfold Qy
 cases e:ks.find? fun k=>decide (k.2.1=kind) with
 | none=>exact ⟨List.nodup_nil,Nat.zero_le _,fun r hr=>(nomatch hr),fun r hr=>(nomatch hr),fun r hr=>(nomatch hr)⟩
 | some k=>exact h.rows k (List.mem_of_find?_eq_some e)
theorem Nx {ks:List KdT} (h:WoodOk ks) {kind name:Str} {ss:List Str} (e:QD ks kind name=some ss):(∀ x ∈ ss,PyData.strOk x=true)∧ss.length≤4:=by
 unfold QD at e
 cases er:(Qy ks kind).find? fun r=>decide (r.2.1=name) with
 | none=>rw [er] at e;cases e
 | some r =>
  rw [er] at e
  have hm:=List.mem_of_find?_eq_some er
  have:r.2.2.2=ss:=by simpa using e
  rw [← this]
  exact ⟨(Z8 h kind).kn r hm,(Z8 h kind).kl r hm⟩
def Sz (K:PySem.W.Frag) (H:Hp) (v:V):Option (List Str)→Prop
 | none=>v=.non
 | some ss=>∃ b,v=.ref b∧SqT K H b (ss.map V.str)
theorem Ux {K:PySem.W.Frag} {H:Hp} {v:V} {t:Tree Str} (h:TrV K H v t):∃ a b vs name mark,v=.ref a∧t=.node name mark t.bs∧SqT K H a [.str name,.int mark,.ref b]∧SqT K H b vs∧TrAll K H vs t.bs∧vs.length≤1000:=by
 cases h with
 | mk h1 h2 h3 h4=>exact ⟨_,_,_,_,_,rfl,rfl,h1,h2,h3,h4⟩
end K9
namespace K11
open PySem L2 TM TT K9
def kpl:Lab→Bool
 | .call _ _=>false
 | .put _ k _=>k
mutual
def kp:Tm→Bool
 | .node l _ bs=>kpl l || kps bs
def kps:List Tm→Bool
 | []=>false
 | t :: r=>kp t || kps r
end
def Uj (mk ks:List Str) (c:Int × Int):Bool:=decide (0≤c.1) && decide (c.1 < mk.length) && decide (0≤c.2) && decide (c.2 < ks.length) && decide (mk[c.1.toNat]?=ks[c.2.toNat]?)
def YI (mk ks:List Str) (t:Tm):Bool:=(cls t).all (Uj mk ks)
abbrev Md:=Str × List Tm
abbrev MdT:=Addr × Str × Addr × List V × List Tm
def MdT.md (m:MdT):Md:=(m.2.1,m.2.2.2.2)
def MdAt (K:PySem.W.Frag) (H:Hp) (m:MdT):Prop:=SqT K H m.1 [.str m.2.1,.ref m.2.2.1]∧SqL K H m.2.2.1 m.2.2.2.1∧TmAll K H m.2.2.2.1 m.2.2.2.2
def ModesL (K:PySem.W.Frag) (H:Hp) (lm:Addr) (ms:List MdT):Prop:=SqL K H lm (47:)∧∀ m ∈ ms,MdAt K H m
theorem MdAt.same {K:PySem.W.Frag} {H H':Hp} {m:MdT} (g:Same H H') (h:MdAt K H m):MdAt K H' m:=⟨g.seqT h.1,g.seq h.2.1,h.2.2.mono fun _ _=>g.seqT⟩
theorem ModesL.same {K:PySem.W.Frag} {H H':Hp} {lm:Addr} {ms:List MdT} (g:Same H H') (h:ModesL K H lm ms):ModesL K H' lm ms:=⟨g.seq h.1,fun m hm=>(h.2 m hm).same g⟩
abbrev mds (ms:List MdT):List Md:=ms.map MdT.md
abbrev mks (ms:List Md):List Str:=ms.map (·.1)
def ZN (ks:List KdT) (mk:List Str) (m:Md):Bool :=
 decide ((Qy ks m.1).length≠0) && decide (m.2.length=(Qy ks m.1).length) && (List.zipWith (fun (r:PNx) t=>YI mk r.2.2.2 t) (Qy ks m.1) m.2).all id
def Zv (ks:List KdT) (m:Md) (name:Str):Option Tm:=(((Qy ks m.1).zip m.2).find? fun x=>decide (x.1.2.1=name)).map (·.2)
def TmO (K:PySem.W.Frag) (H:Hp) (v:V):Option Tm→Prop
 | none=>v=.non
 | some t=>TmV K H v t
end K11
namespace K25
open PySem L2 TM TT K9 K11
def nmT:Tree Str→Str
 | .node n _ _=>n
def mkT:Tree Str→Int
 | .node _ m _=>m
def YY (ks:List KdT) (ms:List Md) (t:Tm) (r:Tree Str):Option (Tm × Tree Str) :=
 match lab t with
 | .put _ _ _=>none
 | .call m b=>match r.bs[b.toNat]? with
  | none=>none
  | some c=>match ms[m.toNat]? with
   | none=>none
   | some md=>match Zv ks md (nmT c) with
    | none=>none
    | some u=>some (u,c)
def Uc (ks:List KdT) (ms:List Md):Nat→Tm × Tree Str→Tm × Tree Str
 | 0,p=>p
 | n + 1,p=>match YY ks ms p.1 p.2 with
  | none=>p
  | some q=>Uc ks ms n q
theorem X8 {ks:List KdT} {ms:List Md} {t:Tm} {r:Tree Str} {q:Tm × Tree Str} (h:YY ks ms t r=some q):q.2 ∈ r.bs:=by
 unfold YY at h
 cases hl:lab t with
 | put n k a=>rw [hl] at h;cases h
 | call m b =>
  rw [hl] at h
  simp only at h
  cases hb:r.bs[b.toNat]? with
  | none=>rw [hb] at h;cases h
  | some c =>
   rw [hb] at h
   simp only at h
   cases hm:ms[m.toNat]? with
   | none=>rw [hm] at h;cases h
   | some md =>
    rw [hm] at h
    simp only at h
    cases hu:Zv ks md (nmT c) with
    | none=>rw [hu] at h;cases h
    | some u =>
     rw [hu] at h
     obtain rfl:=Option.some.inj h
     exact List.mem_of_getElem? hb
theorem Jc {ks:List KdT} {ms:List Md}:∀ (n:Nat) (p:Tm × Tree Str),lv p.2≤n→Uc ks ms (n + 1) p=Uc ks ms n p
 | 0,p,h=>by rw [Zg] at h;lia
 | n + 1,p,h=>by
  rw [Uc]
  conv=>rhs;rw [Uc]
  cases e:YY ks ms p.1 p.2 with
  | none=>rfl
  | some q =>
   have h1:=Yv (X8 e)
   rw [Zg] at h
   exact Jc n q (10:)
def come (ks:List KdT) (ms:List Md) (p:Tm × Tree Str):Tm × Tree Str:=Uc ks ms 60 p
theorem JX {ks:List KdT} {ms:List Md} {p q:Tm × Tree Str} (hl:lv p.2≤60) (h:YY ks ms p.1 p.2=some q):come ks ms p=come ks ms q:=by
 have h1:=Yv (X8 h)
 rw [Zg] at hl
 unfold come
 rw [Jc 59 q (10:)]
 rw [Uc,h]
theorem X7 {ks:List KdT} {ms:List Md} {p:Tm × Tree Str} (h:isC (lab p.1)=false):come ks ms p=p:=by
 unfold come
 rw [Uc]
 have:YY ks ms p.1 p.2=none:=by
  unfold YY
  cases hl:lab p.1 with
  | put n k a=>rfl
  | call m b=>rw [hl] at h;cases h
 rw [this]
structure Tu where
 ks:List KdT
 k0:Str
 start:Tm
 ms:List Md
structure TuOk (T:Tu):Prop where
 rf:∀ m ∈ T.ms,ZN T.ks (mks T.ms) m=true
 st:YI (mks T.ms) [T.k0] T.start=true
def St (T:Tu) (p:Tm × Tree Str):Prop:=∃ kinds,YI (mks T.ms) kinds p.1=true∧kinds.length=p.2.bs.length∧ZA (QD T.ks) p.2.bs kinds=true
theorem Xr {f:Str→Str→Option (List Str)}:∀ {bs:List (Tree Str)} {ss:List Str} {i:Nat} {b:Tree Str} {s:Str},ZA f bs ss=true→bs[i]?=some b→ss[i]?=some s→isT f b s=true
 | [],_,_,_,_,_,h,_=>by simp at h
 | _ :: _,[],_,_,_,_,_,h=>by simp at h
 | b :: bs,s :: ss,0,b',s',h,h1,h2=>by
  simp only [ZA,Bool.and_eq_true] at h
  simp at h1 h2
  rw [← h1,← h2];exact h.1
 | b :: bs,s :: ss,i + 1,b',s',h,h1,h2=>by
  simp only [ZA,Bool.and_eq_true] at h
  exact Xr (i:=i) h.2 (by simpa using h1) (by simpa using h2)
theorem Mg {f:Str→Str→Option (List Str)} {t:Tree Str} {k:Str} (h:isT f t k=true):∃ ss,f k (nmT t)=some ss∧ss.length=t.bs.length∧ZA f t.bs ss=true:=by
 cases t with
 | node n m bs =>
  simp only [isT] at h
  cases e:f k n with
  | none=>rw [e] at h;cases h
  | some ss =>
   rw [e] at h
   simp only [Bool.and_eq_true,decide_eq_true_eq] at h
   exact ⟨ss,e,h.1,h.2⟩
theorem XZ {α β:Type} (p:α→Bool) (f:α→β→Bool):∀ {as:List α} {bs:List β} {a:α},as.length=bs.length→(List.zipWith f as bs).all id=true→as.find? p=some a→∃ b,(as.zip bs).find? (fun x=>p x.1)=some (a,b)∧f a b=true∧b ∈ bs
 | [],_,_,_,_,h=>by simp at h
 | x :: as,[],_,hl,_,_=>by simp at hl
 | x :: as,y :: bs,a,hl,ha,h=>by
  simp only [List.zipWith_cons_cons,List.all_cons,id,Bool.and_eq_true] at ha
  rw [List.find?_cons] at h
  rw [List.zip_cons_cons,List.find?_cons]
  cases hp:p x with
  | true =>
   rw [hp] at h
   obtain rfl:=Option.some.inj h
   exact ⟨y,by simp [hp],ha.1,List.mem_cons_self⟩
  | false =>
   rw [hp] at h
   obtain ⟨b,h1,h2,h3⟩:=XZ p f (by simpa using hl) ha.2 h
   exact ⟨b,by simpa [hp] using h1,h2,List.mem_cons_of_mem _ h3⟩
theorem LK {t:Tm} {m b:Int} (h:lab t=.call m b):(m,b) ∈ cls t:=by
 cases t with
 | node l k bs =>
  have:l=.call m b:=h
  subst this
  simp [cls,lcl]
theorem Ge {mk ks:List Str} {m b:Int} (h:Uj mk ks (m,b)=true):0≤m∧m < mk.length∧0≤b∧b < ks.length∧mk[m.toNat]?=ks[b.toNat]?:=by
 unfold Uj at h
 simp only [Bool.and_eq_true,decide_eq_true_eq] at h
 obtain ⟨⟨⟨⟨h1,h2⟩,h3⟩,h4⟩,h5⟩:=h
 exact ⟨h1,h2,h3,h4,h5⟩
theorem MB {mk ks:List Str} {t:Tm} {m b:Int} (h:YI mk ks t=true) (hl:lab t=.call m b):Uj mk ks (m,b)=true:=by
 unfold YI at h
 exact List.all_eq_true.mp h _ (LK hl)
theorem V4 {T:Tu} (ok:TuOk T) {md:Md} (hm:md ∈ T.ms) {name:Str} {ss:List Str} (hr:QD T.ks md.1 name=some ss):∃ u,Zv T.ks md name=some u∧YI (mks T.ms) ss u=true∧u ∈ md.2:=by
 have h:=ok.rf md hm
 unfold ZN at h
 simp only [Bool.and_eq_true,decide_eq_true_eq] at h
 obtain ⟨⟨_,h2⟩,h3⟩:=h
 unfold QD at hr
 cases er:(Qy T.ks md.1).find? fun r=>decide (r.2.1=name) with
 | none=>rw [er] at hr;cases hr
 | some r =>
  rw [er] at hr
  have e:r.2.2.2=ss:=by simpa using hr
  obtain ⟨u,h4,h5,h6⟩:=XZ (fun r:PNx=>decide (r.2.1=name)) (fun (r:PNx) t=>YI (mks T.ms) r.2.2.2 t) h2.symm h3 er
  refine ⟨u,?_,by rw [← e];exact h5,h6⟩
  unfold Zv
  rw [h4];rfl
theorem St.next {T:Tu} (ok:TuOk T) {p:Tm × Tree Str} (h:St T p) {m b:Int} (hl:lab p.1=.call m b) :
 ∃ c md u,0≤b∧0≤m∧p.2.bs[b.toNat]?=some c∧T.ms[m.toNat]?=some md∧Zv T.ks md (nmT c)=some u∧u ∈ md.2∧YY T.ks T.ms p.1 p.2=some (u,c)∧St T (u,c):=by
 obtain ⟨kinds,hf,hkl,hT⟩:=h
 obtain ⟨m0,m1,b0,b1,e⟩:=Ge (MB hf hl)
 have hbl:b.toNat < p.2.bs.length:=by lia
 have hml:m.toNat < T.ms.length:=by rw [List.length_map] at m1;lia
 have hkb:b.toNat < kinds.length:=by lia
 have hc:p.2.bs[b.toNat]?=some p.2.bs[b.toNat]:=List.getElem?_eq_getElem hbl
 have hm:T.ms[m.toNat]?=some T.ms[m.toNat]:=List.getElem?_eq_getElem hml
 have hk:kinds[b.toNat]?=some T.ms[m.toNat].1:=by rw [← e,List.getElem?_map,hm];rfl
 obtain ⟨ss,h1,h2,h3⟩:=Mg (Xr hT hc hk)
 obtain ⟨u,h4,h5,h6⟩:=V4 ok (List.getElem_mem hml) h1
 refine ⟨_,_,u,b0,m0,hc,hm,h4,h6,?_,ss,h5,h2,h3⟩
 unfold YY
 rw [hl]
 simp only [hc,hm,h4]
theorem Xg {T:Tu} (ok:TuOk T):∀ (n:Nat) (p:Tm × Tree Str),lv p.2≤n→n≤60→St T p→St T (come T.ks T.ms p)∧isC (lab (come T.ks T.ms p).1)=false∧lv (come T.ks T.ms p).2≤lv p.2
 | 0,p,h,_,_=>by rw [Zg] at h;lia
 | n + 1,p,h,hn,hS=>by
  cases hl:lab p.1 with
  | put nm k a =>
   have hc:isC (lab p.1)=false:=by rw [hl];rfl
   rw [X7 hc]
   exact ⟨hS,hc,Nat.le_refl _⟩
  | call m b =>
   obtain ⟨c,md,u,_,_,hc,_,_,_,hn2,hS2⟩:=hS.next ok hl
   rw [JX (10:) hn2]
   have h1:=Yv (List.mem_of_getElem? hc)
   have h0:=Zg p.2
   obtain ⟨a1,a2,a3⟩:=Xg ok n (u,c) (by show lv c≤n;lia) (10:) hS2
   have a3':lv (come T.ks T.ms (u,c)).2≤lv c:=a3
   exact ⟨a1,a2,by lia⟩
def Yd (T:Tu) (p:Tm × Tree Str) (j:Int):Option (Tm × Tree Str):=if 0≤j then (p.1.bs[j.toNat]?).map fun u=>come T.ks T.ms (u,p.2) else none
def Z3 (T:Tu):Tm × Tree Str→List Int→Option (Tm × Tree Str)
 | p,[]=>some p
 | p,j :: r=>match Yd T p j with
  | none=>none
  | some q=>Z3 T q r
theorem Y3 (T:Tu):∀ (p:Tm × Tree Str) (l r:List Int),Z3 T p (l ++ r)=(Z3 T p l).bind fun q=>Z3 T q r
 | p,[],r=>rfl
 | p,j :: l,r=>by
  simp only [List.cons_append,Z3]
  cases Yd T p j with
  | none=>rfl
  | some q=>exact Y3 T q l r
theorem St.part {T:Tu} {p:Tm × Tree Str} (h:St T p) {u:Tm} (hu:u ∈ p.1.bs):St T (u,p.2):=by
 obtain ⟨kinds,hf,h1,h2⟩:=h
 refine ⟨kinds,?_,h1,h2⟩
 unfold YI at hf ⊢
 rw [List.all_eq_true] at hf ⊢
 intro c hc
 refine hf c ?_
 cases hp:p.1 with
 | node l k bs =>
  rw [hp] at hu
  simp only [cls]
  exact List.mem_append_right _ (OZ hu c hc)
structure At (T:Tu) (p:Tm × Tree Str):Prop where
 st:St T p
 pt:isC (lab p.1)=false
 lv:TM.lv p.2≤60
theorem At.step {T:Tu} (ok:TuOk T) {p q:Tm × Tree Str} (h:At T p) {j:Int} (e:Yd T p j=some q):At T q:=by
 unfold Yd at e
 by_cases hj:0≤j
 ·rw [if_pos hj] at e
  cases hu:p.1.bs[j.toNat]? with
  | none=>rw [hu] at e;cases e
  | some u =>
   rw [hu] at e
   obtain rfl:come T.ks T.ms (u,p.2)=q:=Option.some.inj e
   obtain ⟨a1,a2,a3⟩:=Xg ok 60 (u,p.2) h.lv (7:) (h.st.part (List.mem_of_getElem? hu))
   exact ⟨a1,a2,Nat.le_trans a3 h.lv⟩
 ·rw [if_neg hj] at e;cases e
def PX (p:Tm × Tree Str):Int:=match lab p.1 with
 | .call _ _=>0
 | .put _ k a=>if k=true then a + mkT p.2 else a
def Py (p:Tm × Tree Str):Str:=match lab p.1 with
 | .call _ _=>S []
 | .put n _ _=>n
def upT (t:Tree Str):Tree Str:=.node (S []) 0 [t]
theorem St.start {T:Tu} (ok:TuOk T) {t:Tree Str} (h:isT (QD T.ks) t T.k0=true):St T (T.start,upT t) :=
 ⟨[T.k0],ok.st,rfl,by simp [upT,Tree.bs,ZA,h]⟩
theorem St.mode {T:Tu} {t:Tree Str} {m:Int} {md:Md} (h0:0≤m) (hm:T.ms[m.toNat]?=some md) (h:isT (QD T.ks) t md.1=true):St T (ZB m 0,upT t):=by
 refine ⟨[md.1],?_,rfl,by simp [upT,Tree.bs,ZA,h]⟩
 have hl:m.toNat < T.ms.length:=(List.getElem?_eq_some_iff.mp hm).1
 unfold YI
 simp only [ZB,cls,lcl,Zh,List.append_nil,List.all_cons,List.all_nil,Bool.and_true]
 unfold Uj
 simp only [List.length_map,List.getElem?_map,hm,Bool.and_eq_true,decide_eq_true_eq,Option.map_some,List.length_singleton]
 exact ⟨⟨⟨⟨h0,by lia⟩,by lia⟩,by lia⟩,rfl⟩
end K25
namespace L2
open PySem PySem.Spec PyProof.Rows PySem.W
section
variable {prog:Program} {w:World} {A:Around} {E:Value→Shared→Prop} {s:Shared}
end
section
variable {X:Cx}
end
end L2
namespace L2
open PySem PySem.Spec PyProof.Rows
section
variable {prog:Program} {w:World} {A:Around} {E:Value→Shared→Prop} {s:Shared}
theorem GJ {zp ti tu j1 j2 t1 t2:Addr} {n1 n2:Nat} {us vs:Array Value} {p q c d:Value} {Q:Value→Shared→Prop} (Ap:ZipApart zp ti tu j1 j2 t1 t2)
 (gz:IsZip s.heap zp ti tu .none) (gi:IsPair s.heap ti (.ref j1) (.ref j2)) (gu:IsPair s.heap tu c d)
 (w1:s.heap.IsTupleIter j1 t1 n1) (w2:s.heap.IsListIter j2 t2 n2) (l1:s.heap.IsTuple t1 us) (l2:s.heap.IsList t2 vs) (ep:us[n1]?=some p) (eq:vs[n2]?=some q)
 (k:∀ h',IsZip h' zp ti tu (rawInt s.heap.objs.size)→IsPair h' tu p q→h'.IsTupleIter j1 t1 (n1 + 1)→h'.IsListIter j2 t2 (n2 + 1)→IsPair h' s.heap.objs.size p q →
  (14:)→Q (57:) { s with heap:=h' }) :
 wpAny (17:) A (Builtin.«zip.__next__» ⟨[.ref zp],[]⟩) (fun fin s'=>∃ v,fin=.done (.ret v)∧Q v s') E s:=by
 show wpAny _ _ (field (.ref zp) 2 >>= _) _ _ _
 refine wpAny_bind (wpAny_field gz rfl (x:=.bool false) rfl ?_)
 show wpAny _ _ (field (.ref zp) 3 >>= _) _ _ _
 refine wpAny_bind (wpAny_field gz rfl (x:=.ref ti) rfl ?_)
 refine wpAny_bind (wpAny_seqItems gi rfl ?_)
 show wpAny _ _ (Builtin.SmallTypes.ownedTupleIsFree (.ref zp) >>= _) _ _ _
 refine wpAny_bind ?_;(unfold Builtin.SmallTypes.ownedTupleIsFree);refine wpAny_bind (wpAny_field gz rfl (x:=.none) rfl (wpAny_pure ?_))
 simp only [if_true]
 refine wpAny_bind (wpAny_rule (wpAny_bind (wpAny_field gz rfl (x:=.ref tu) rfl ?_)))
 refine wpAny_bind (wpAny_setField_rec gz (24:) fun ha gza sa=>?_)
 replace gza:IsZip ha zp ti tu .ellipsis:=gza
 refine wpAny_bind ?_
 simp only [List.forIn_cons,List.forIn_nil,List.zipIdx_cons,List.zipIdx_nil]
 refine wpAny_bind (wpAny_bind (wpAny_onRaise ?_))
 show wpAny _ _ (Builtin.SmallTypes.nextOf (.ref j1) >>= _) _ _ _
 refine wpAny_bind (ZX (w1.extBut sa.extBut Ap.i1z) (l1.extBut sa.extBut Ap.l1z) ep fun hb w1b sb=>wpAny_pure ?_)
 have gub:IsPair hb tu c d:=sb.extBut _ _ Ap.TOi1 (sa.extBut _ _ Ap.TOz gu)
 refine wpAny_bind (wpAny_seqItems gub rfl (wpAny_bind (wpAny_updateSeq_pair gub fun hc guc sc=>?_)))
 replace guc:IsPair hc tu p d:=guc
 refine wpAny_bind (wpAny_letGo (wpAny_pure (wpAny_bind (wpAny_bind (wpAny_onRaise ?_)))))
 show wpAny _ _ (Builtin.SmallTypes.nextOf (.ref j2) >>= _) _ _ _
 refine wpAny_bind (wpAny_nextOf_list_item (((w2.extBut sa.extBut Ap.i2z).extBut sb.extBut Ap.i12.symm).extBut sc.extBut Ap.TOi2.symm) (((l2.extBut sa.extBut Ap.l2z).extBut sb.extBut Ap.l2i1).extBut sc.extBut Ap.l2TO) eq fun hd w2d sd=>wpAny_pure ?_)
 have gud:IsPair hd tu p d:=sd.extBut _ _ Ap.TOi2 guc
 refine wpAny_bind (wpAny_seqItems gud rfl (wpAny_bind (wpAny_updateSeq_pair gud fun he gue se=>?_)))
 replace gue:IsPair he tu p q:=gue
 refine wpAny_bind (wpAny_letGo (wpAny_pure (wpAny_pure (wpAny_bind (wpAny_seqItems gue rfl (wpAny_bind (wpAny_newTuple ?_)))))))
 have size5:he.objs.size=s.heap.objs.size:=by rw [se.1,sd.1,sc.1,sb.1,sa.1]
 have gze:IsZip he zp ti tu .ellipsis:=se.extBut _ _ Ap.TOz.symm (sd.extBut _ _ Ap.i2z.symm (sc.extBut _ _ Ap.TOz.symm (sb.extBut _ _ Ap.i1z.symm gza)))
 have kept5:∀ b o,b≠zp→b≠tu→b≠j1→b≠j2→s.heap.get? b=some o→he.get? b=some o:=fun b o b1 b2 b3 b4 e=>se.extBut _ _ b2 (sd.extBut _ _ b4 (sc.extBut _ _ b2 (sb.extBut _ _ b3 (sa.extBut _ _ b1 e))))
 have w1e:he.IsTupleIter j1 t1 (n1 + 1):=((w1b.extBut sc.extBut Ap.TOi1.symm).extBut sd.extBut Ap.i12).extBut se.extBut Ap.TOi1.symm
 have w2e:he.IsListIter j2 t2 (n2 + 1):=w2d.extBut se.extBut Ap.TOi2.symm
 have lz:zp < he.objs.size:=Heap.lt_size gze
 show wpAny _ _ (Builtin.SmallTypes.ownedTupleHandOut (.ref zp) (.ref he.objs.size) >>= _) _ _ _
 refine wpAny_bind ?_;(unfold Builtin.SmallTypes.ownedTupleHandOut)
 have gzf:IsZip (he.push { cls:=.type "tuple", data:=.seq #[p,q] }) zp ti tu .ellipsis:=Heap.get?_push_of_some _ gze
 refine wpAny_bind (wpAny_setField_rec gzf (24:) fun hg gzg sg=>?_)
 replace gzg:IsZip hg zp ti tu (rawInt he.objs.size):=gzg
 refine wpAny_setField_rec gzg (24:) fun hh gzh sh=>?_
 replace gzh:IsZip hh zp ti tu (rawInt he.objs.size):=gzh
 have upw:∀ b o,b≠zp→he.get? b=some o→hh.get? b=some o:=fun b o b1 e=>sh.extBut _ _ b1 (sg.extBut _ _ b1 (Heap.get?_push_of_some _ e))
 have gnew:IsPair hh he.objs.size p q:=sh.extBut _ _ (Nat.ne_of_gt lz) (sg.extBut _ _ (Nat.ne_of_gt lz) (46:))
 rw [size5] at gzh gnew
 refine wpAny_pure ⟨_,rfl,?_⟩
 show Q (.ref he.objs.size) _
 rw [size5]
 exact k hh gzh (upw _ _ Ap.TOz gue) (w1e.at fun o e=>upw _ o Ap.i1z e) (w2e.at fun o e=>upw _ o Ap.i2z e) gnew fun b o b1 b2 b3 b4 e=>upw b o b1 (kept5 b o b1 b2 b3 b4 e)
theorem Mc {zp ti tu j1 j2 t1 t2:Addr} {n1 n2:Nat} {us vs:Array Value} {c d:Value} {Q:Fin→Shared→Prop} (hh:A.handled=none) (Ap:ZipApart zp ti tu j1 j2 t1 t2)
 (gz:IsZip s.heap zp ti tu .none) (gi:IsPair s.heap ti (.ref j1) (.ref j2)) (gu:IsPair s.heap tu c d)
 (w1:s.heap.IsTupleIter j1 t1 n1) (l1:s.heap.IsTuple t1 us) (ep:us[n1]?=none)
 (k:∀ h' e,(14:)→(∃ o,h'.get? e=some o∧o.cls=.type "StopIteration")→E (.ref e) { s with heap:=h' }) :
 wpAny (17:) A (Builtin.«zip.__next__» ⟨[.ref zp],[]⟩) Q E s:=by
 show wpAny _ _ (field (.ref zp) 2 >>= _) _ _ _
 refine wpAny_bind (wpAny_field gz rfl (x:=.bool false) rfl ?_)
 show wpAny _ _ (field (.ref zp) 3 >>= _) _ _ _
 refine wpAny_bind (wpAny_field gz rfl (x:=.ref ti) rfl ?_)
 refine wpAny_bind (wpAny_seqItems gi rfl ?_)
 show wpAny _ _ (Builtin.SmallTypes.ownedTupleIsFree (.ref zp) >>= _) _ _ _
 refine wpAny_bind ?_;(unfold Builtin.SmallTypes.ownedTupleIsFree);refine wpAny_bind (wpAny_field gz rfl (x:=.none) rfl (wpAny_pure ?_))
 simp only [if_true]
 refine wpAny_bind (wpAny_rule (wpAny_bind (wpAny_field gz rfl (x:=.ref tu) rfl ?_)))
 refine wpAny_bind (wpAny_setField_rec gz (24:) fun ha gza sa=>?_)
 replace gza:IsZip ha zp ti tu .ellipsis:=gza
 refine wpAny_bind ?_
 simp only [List.forIn_cons,List.forIn_nil,List.zipIdx_cons,List.zipIdx_nil]
 refine wpAny_bind (wpAny_bind (wpAny_onRaise ?_))
 show wpAny _ _ (Builtin.SmallTypes.nextOf (.ref j1) >>= _) _ _ _
 refine wpAny_bind (Ud hh (w1.extBut sa.extBut Ap.i1z) (l1.extBut sa.extBut Ap.l1z) ep fun hb e sb ge=>?_)
 obtain ⟨oe,hoe,hce⟩:=ge
 have gzb:IsZip hb zp ti tu .ellipsis:=sb _ _ Ap.i1z.symm gza
 have nez:e≠zp:=fun x=>by subst x;rw [gzb] at hoe;cases hoe;simp at hce
 refine wpAny_setField_rec gzb (24:) fun hc _ sc=>k hc e (fun b o b1 _ b3 _ x=>sc.extBut _ _ b1 (sb _ _ b3 (sa.extBut _ _ b1 x))) ⟨oe,sc.extBut _ _ nez hoe,hce⟩
theorem YZ {zp ti tu j1 j2 t1 t2:Addr} {n1 n2:Nat} {us vs:Array Value} {p q c d:Value} {Q:Option Value→Shared→Prop} (Ap:ZipApart zp ti tu j1 j2 t1 t2)
 (gz:IsZip s.heap zp ti tu .none) (gi:IsPair s.heap ti (.ref j1) (.ref j2)) (gu:IsPair s.heap tu c d)
 (w1:s.heap.IsTupleIter j1 t1 n1) (w2:s.heap.IsListIter j2 t2 n2) (l1:s.heap.IsTuple t1 us) (l2:s.heap.IsList t2 vs) (ep:us[n1]?=some p) (eq:vs[n2]?=some q)
 (k:∀ h',IsZip h' zp ti tu (rawInt s.heap.objs.size)→IsPair h' tu p q→h'.IsTupleIter j1 t1 (n1 + 1)→h'.IsListIter j2 t2 (n2 + 1)→IsPair h' s.heap.objs.size p q →
  (14:)→Q (some (57:)) { s with heap:=h' }) :
 wpAny (17:) A (pyNext (.ref zp)) Q E s:=by
 have tz:s.TypeIs (.ref zp) "zip" := ⟨_,gz,rfl⟩
 unfold pyNext
 exact wpAny_bind (wpAny_attempt (wpAny_callSpecial?_slot (name:=Str.ofString "__next__") tz F.slot_zip_next (wpAny_call_entry F.slot_zip_next tz F.entry_zip_next (GJ Ap gz gi gu w1 w2 l1 l2 ep eq fun h' a1 a2 a3 a4 a5 a6=>wpAny_pure (k h' a1 a2 a3 a4 a5 a6)) (F.args_zip_next_1 _))))
theorem Um {zp ti tu j1 j2 t1 t2:Addr} {n1 n2:Nat} {us:Array Value} {c d:Value} {Q:Option Value→Shared→Prop} (hh:A.handled=none) (Ap:ZipApart zp ti tu j1 j2 t1 t2)
 (gz:IsZip s.heap zp ti tu .none) (gi:IsPair s.heap ti (.ref j1) (.ref j2)) (gu:IsPair s.heap tu c d) (w1:s.heap.IsTupleIter j1 t1 n1) (l1:s.heap.IsTuple t1 us) (ep:us[n1]?=none)
 (k:∀ h',(14:)→Q none { s with heap:=h' }):wpAny (17:) A (pyNext (.ref zp)) Q E s:=by
 have tz:s.TypeIs (.ref zp) "zip" := ⟨_,gz,rfl⟩
 unfold pyNext
 refine wpAny_bind (wpAny_attempt (wpAny_callSpecial?_slot (name:=Str.ofString "__next__") tz F.slot_zip_next (wpAny_call_entry F.slot_zip_next tz F.entry_zip_next (Mc hh (n2:=n2) (vs:=us) Ap gz gi gu w1 l1 ep fun h' e hk ge=>?_) (F.args_zip_next_1 _))))
 obtain ⟨o,ho,hc⟩:=ge
 exact wpAny_bind (wpAny_isInstance (T:="StopIteration") (b:=true) ⟨o,ho,hc⟩ isSubtype_stop (wpAny_pure (k _ hk)))
abbrev zM1 (h:Heap) (t1:Addr):Heap:=h.push { cls:=.type "tuple_iterator", data:=.fields #[.ref t1,.int 0 0] }
abbrev zM2 (h:Heap) (t1 t2:Addr):Heap:=(zM1 h t1).push { cls:=.type "list_iterator", data:=.fields #[.ref t2,.int 0 0] }
abbrev zM3 (h:Heap) (t1 t2:Addr):Heap:=(zM2 h t1 t2).push { cls:=.type "tuple", data:=.seq #[.ref h.objs.size,.ref (zM1 h t1).objs.size] }
abbrev zM4 (h:Heap) (t1 t2:Addr):Heap:=(zM3 h t1 t2).push { cls:=.type "tuple", data:=.seq #[.none,.none] }
abbrev zM5 (h:Heap) (t1 t2:Addr):Heap:=(zM4 h t1 t2).push { cls:=.type "zip", data:=.fields #[.none,.bool false,.bool false,.ref (zM2 h t1 t2).objs.size,.ref (zM3 h t1 t2).objs.size] }
theorem Lg (t1 t2:Addr) (us vs:Array Value) :
 Meets (Builtin.«zip.__new__» ⟨[.type "zip", .ref t1,.ref t2],[]⟩) (fun _ R s=>s.heap.IsTuple t1 us∧s.heap.IsList t2 vs ∧
  R (.ok (.ret (.ref (zM4 s.heap t1 t2).objs.size))) { s with heap:=zM5 s.heap t1 t2 }) :=
 .of_wp fun prog w A R s h=>by
  obtain ⟨hp,g,d,tk,os⟩:=s;obtain ⟨l1,l2,h⟩:=h
  have hsub:=sub_zip
  have L1:Heap.IsTuple (Shared.heap ⟨hp,g,d,tk,os⟩) t1 us:=l1
  have L2:Heap.IsList (Shared.heap ⟨hp.push { cls:=.type "tuple_iterator", data:=.fields #[.ref t1,.int 0 0] },g,d,tk,os⟩) t2 vs:=let ⟨o,e,r⟩:=l2;⟨o,Heap.get?_push_of_some _ e,r⟩
  wp_walk using wpAny_pyIter_tuple L1,wpAny_pyIter_list L2
  exact ⟨_,rfl,h⟩
theorem Gb {t1 t2:Addr} {us vs:Array Value} {Q:Value→Shared→Prop} (l1:s.heap.IsTuple t1 us) (l2:s.heap.IsList t2 vs)
 (h:∀ h',IsZip h' (s.heap.objs.size + 4) (s.heap.objs.size + 2) (s.heap.objs.size + 3) .none→IsPair h' (s.heap.objs.size + 2) (57:) (.ref (s.heap.objs.size + 1)) →
  IsPair h' (s.heap.objs.size + 3) .none .none→h'.IsTupleIter s.heap.objs.size t1 0→h'.IsListIter (s.heap.objs.size + 1) t2 0 →
  (∀ c o,s.heap.get? c=some o→h'.get? c=some o)→Q (.ref (s.heap.objs.size + 4)) { s with heap:=h' }) :
 wpAny (17:) A (call (.type "zip") [.ref t1,.ref t2]) Q E s:=by
 refine callType_new F.called_zip (27:) (F.typeCall_zip_2 _ _) (F.newCall_zip_2 _ _) (fun obj=>F.args_object_init_3 obj _ _) F.entry_zip_new (Lg t1 t2 us vs) ⟨l1,l2,?_⟩
 have q1:(zM1 s.heap t1).objs.size=s.heap.objs.size + 1:=Heap.size_push ..
 have q2:(zM2 s.heap t1 t2).objs.size=s.heap.objs.size + 2:=by rw [Heap.size_push,q1]
 have q3:(zM3 s.heap t1 t2).objs.size=s.heap.objs.size + 3:=by rw [Heap.size_push,q2]
 have q4:(zM4 s.heap t1 t2).objs.size=s.heap.objs.size + 4:=by rw [Heap.size_push,q3]
 have r5:(zM5 s.heap t1 t2).get? (zM4 s.heap t1 t2).objs.size=some _:=Heap.get?_push_size _ rfl
 have r4:(zM5 s.heap t1 t2).get? (zM3 s.heap t1 t2).objs.size=some _:=Heap.get?_push_of_some _ (46:)
 have r3:(zM5 s.heap t1 t2).get? (zM2 s.heap t1 t2).objs.size=some _:=Heap.get?_push_of_some _ (Heap.get?_push_of_some _ (46:))
 have r2:(zM5 s.heap t1 t2).get? (zM1 s.heap t1).objs.size=some _:=Heap.get?_push_of_some _ (Heap.get?_push_of_some _ (Heap.get?_push_of_some _ (46:)))
 have r1:(zM5 s.heap t1 t2).get? s.heap.objs.size=some _:=Heap.get?_push_of_some _ (Heap.get?_push_of_some _ (Heap.get?_push_of_some _ (Heap.get?_push_of_some _ (46:))))
 show _∧_
 rw [q2,q3,q4] at r5
 rw [q1,q2] at r3
 rw [q3] at r4
 rw [q1] at r2
 rw [q4]
 exact ⟨⟨_,r5,rfl⟩,h _ r5 r3 r4 ⟨_,r1,rfl,rfl⟩ ⟨_,r2,rfl,rfl⟩ fun b o x=>Heap.get?_push_of_some _ (Heap.get?_push_of_some _ (Heap.get?_push_of_some _ (Heap.get?_push_of_some _ (Heap.get?_push_of_some _ x))))⟩
end
def LS (K:PySem.W.Frag) (a b:Addr) (xs ys:List V):It :=
 ⟨fun i H=>SqT K H a xs∧SqL K H b ys∧i < xs.length∧i < ys.length,fun i H x H'=>∃ p u v,H p=none∧x=.ref p∧H'=upd H p (.tup [u,v])∧xs[i]?=some u∧ys[i]?=some v,fun i H=>SqT K H a xs∧xs.length≤i⟩
theorem GM {P:Program} {w:World} {K:PySem.W.Frag} {elts:List Expr} {k1:Nat} {pos:Pos} (a b z:Addr) (xs ys:List V) (TI TO i1 i2:Addr) (Ap:ZipApart z TI TO i1 i2 a b) :
 Turn P w K (.Tuple elts k1 pos) (LS K a b xs ys) [z,TI,TO,i1,i2] z (fun i h=>IsZip h z TI TO .none∧IsPair h TI (.ref i1) (.ref i2)∧(∃ u v,IsPair h TO u v)∧h.IsTupleIter i1 a i∧h.IsListIter i2 b i) where
 mem:=by simp
 obj:=fun i h st c hc=>by
  obtain ⟨hz,hTI,⟨u,v,hTO⟩,h1,h2⟩:=st
  simp only [List.mem_cons,List.mem_nil_iff,or_false] at hc
  rcases hc with rfl | rfl | rfl | rfl | rfl
  ·exact ⟨_,hz,fun v z=>by have z':Data.fields _=Data.cell v:=z;cases z'⟩
  ·exact ⟨_,hTI,fun v z=>by have z':Data.seq _ _=Data.cell v:=z;cases z'⟩
  ·exact ⟨_,hTO,fun v z=>by have z':Data.seq _ _=Data.cell v:=z;cases z'⟩
  ·obtain ⟨o,e,c,d⟩:=h1;exact (48:)
  ·obtain ⟨o,e,c,d⟩:=h2;exact (48:)
 keep:=fun i h h' st k=>by
  obtain ⟨hz,hTI,⟨u,v,hTO⟩,h1,h2⟩:=st
  exact (52:)
 item:=by
  intro X hP hw hK hc i pins s σ H E I hf st hg
  subst hP hw hK
  obtain ⟨hz,hTI,⟨u0,v0,hTO⟩,h1,h2⟩:=st
  obtain ⟨qa,qb,lx,ly⟩:=hg
  obtain ⟨its,rv,p,_⟩:=I.tuple qa
  obtain ⟨its2,rv2,p2,_⟩:=I.list qb
  have ex:xs[i]?=some xs[i]:=List.getElem?_eq_getElem lx
  have ey:ys[i]?=some ys[i]:=List.getElem?_eq_getElem ly
  obtain ⟨u,hu,ru⟩:=rv.get ex
  obtain ⟨v,hv,rv'⟩:=rv2.get ey
  refine YZ Ap hz hTI hTO h1 h2 p p2.isList (p:=u) (q:=v) (by simpa using hu) (by simpa using hv) fun h' a1 a2 a3 a4 a5 hk=>?_
  refine ⟨.ref s.heap.objs.size,rfl,wpAny_letOwnedTupleGo_zip (s:={ s with heap:=h' }) a1 fun h'' hz' hs'=>?_⟩
  have lt:∀ {c o},s.heap.get? c=some o→c≠s.heap.objs.size:=fun e=>Nat.ne_of_lt (58:)
  have e5:IsPair h'' s.heap.objs.size u v:=(hs'.2 _ (Ne.symm (lt hz))).trans a5
  have hch:∀ c ∈ [z,TO,i1,i2],YC X pins H c:=fun c hc=>hf c (by
   simp only [List.mem_cons,List.mem_nil_iff,or_false] at hc ⊢
   rcases hc with rfl | rfl | rfl | rfl <;> simp)
  have I2:Inv X pins σ (upd H s.heap.objs.size (.tup [xs[i],ys[i]])) { s with heap:=h'',toks:=s.toks }:=by
   refine I.turnedNew (ch:=[z,TO,i1,i2]) (fun c o hc e=>?_) hch (7:) ⟨by show 2≤sizeLine;decide,[u,v],.cons ru (.cons rv' .nil),⟨_,e5,rfl,_,rfl⟩⟩
   simp only [List.mem_cons,List.mem_nil_iff,or_false,not_or] at hc
   exact (hs'.2 c hc.1).trans (hk c o hc.1 hc.2.1 hc.2.2.1 hc.2.2.2 e)
  have hfr:∀ c ∈ [z,TI,TO,i1,i2],upd H s.heap.objs.size (.tup [xs[i],ys[i]]) c=none:=fun c hc=>by
   have hc2:=hf c hc
   have:c≠s.heap.objs.size:=by
    simp only [List.mem_cons,List.mem_nil_iff,or_false] at hc
    rcases hc with rfl | rfl | rfl | rfl | rfl
    ·exact lt hz
    ·exact lt hTI
    ·exact lt hTO
    ·obtain ⟨o,e,_⟩:=h1;exact lt e
    ·obtain ⟨o,e,_⟩:=h2;exact lt e
   rw [Qg this];exact hc2.1
  exact (19:)
 done:=by
  intro X hP hw hK hc i pins s σ H E I hf st hg
  subst hP hw hK
  obtain ⟨hz,hTI,⟨u0,v0,hTO⟩,h1,h2⟩:=st
  obtain ⟨qa,hl⟩:=hg
  obtain ⟨its,rv,p,_⟩:=I.tuple qa
  have l1:=rv.length
  have hch:∀ c ∈ [z,TO,i1,i2],YC X pins H c:=fun c hc=>hf c (by
   simp only [List.mem_cons,List.mem_nil_iff,or_false] at hc ⊢
   rcases hc with rfl | rfl | rfl | rfl <;> simp)
  refine Um (n2:=0) (I.ok.hd hc) Ap hz hTI hTO h1 p (by simp;lia) fun h' hk=>⟨rfl,I.turnedL (t':=s.toks) (ch:=[z,TO,i1,i2]) (fun c o hc e=>?_) hch⟩
  simp only [List.mem_cons,List.mem_nil_iff,or_false,not_or] at hc
  exact hk c o hc.1 hc.2.1 hc.2.2.1 hc.2.2.2 e
 self:=fun _ _ _ _ _ st h=>wpAny_pyIter_zip st.1 h
section
variable {X:Cx} {elts:List Expr} {k1:Nat} {tpos:Pos}
def Ry (K:PySem.W.Frag) (ta:TA):TI:=fun σ H R=>ta σ H fun vs H1=>∃ a b xs ys,vs=[.ref a,.ref b]∧SqT K H1 a xs∧SqL K H1 b ys∧R (LS K a b xs ys) H1
theorem N8 {e1 e2:Expr} {ta:TA} {p pos:Pos} (hg:Gl X "zip") (hm:X.mg "zip" = none) (ha:PA X [e1,e2] ta) (hs:starEach [e1,e2] X.env=[(false,eval e1 X.env),(false,eval e2 X.env)]:=by rfl) (hs2:starEach [e2] X.env=[(false,eval e2 X.env)]:=by rfl) :
 PI X (.Tuple elts k1 tpos) (.Call (.Name "zip" p) [e1,e2] [] pos) (Ry X.K ta):=by
 intro pins s σ H R I h
 refine Call_ (ZU I hg hm PyProof.Rows.boot_zip (PyProof.Rows.callWith_type1 (50:) (by rw [hs,hs2]) (by rw [hs2];rfl)))
 obtain ⟨a,b,xs,ys,e,qa,qb,q⟩:=q1
 subst e
 obtain ⟨u1,u2,e3,r3,r4⟩:=r1.two
 subst e3
 cases (show u1=Value.ref a from r3)
 cases (show u2=Value.ref b from r4)
 obtain ⟨its,rv,pl,_⟩:=I1.tuple qa
 obtain ⟨its2,rv2,pl2,_⟩:=I1.list qb
 have la:@LT.lt Nat _ a s1.heap.objs.size:=by obtain ⟨o,e,_⟩:=pl;exact Heap.lt_size e
 have lb:@LT.lt Nat _ b s1.heap.objs.size:=by obtain ⟨o,_,e,_⟩:=pl2;exact Heap.lt_size e
 refine Gb pl pl2.isList fun h' hz hTI hTO h1 h2 hk=>?_
 refine wpAny_pyIter_zip hz ?_
 have I2:Inv X pins σ H1 { s1 with heap:=h' }:=I1.kept (t':=s1.toks) hk
 refine ⟨s1.heap.objs.size + 4,[s1.heap.objs.size + 4,s1.heap.objs.size + 2,s1.heap.objs.size + 3,s1.heap.objs.size,s1.heap.objs.size + 1],_,_,H1,rfl,I2,GM a b (s1.heap.objs.size + 4) xs ys (s1.heap.objs.size + 2) (s1.heap.objs.size + 3) s1.heap.objs.size (s1.heap.objs.size + 1) ?_,⟨hz,hTI,⟨_,_,hTO⟩,h1,h2⟩,fun c hc=>?_,q⟩
 ·constructor <;> (refine nne ?_;lia)
 ·have hle:@LE.le Nat _ s1.heap.objs.size c:=by
   simp only [List.mem_cons,List.mem_nil_iff,or_false] at hc
   rcases hc with rfl | rfl | rfl | rfl | rfl <;> lia
  exact I1.fpOk hle (I1.hok.fresh hle)
end
theorem Lc {K:PySem.W.Frag} {a b:Addr} {xs ys:List V} {g:TG} {tb:TS} {D:Ends} {σ:St} {H:Hp} (hlen:xs.length=ys.length) (Pv:Nat→St→Hp→Prop) (h0:Pv 0 σ H) (hl:∀ i σ H,i≤xs.length→Pv i σ H→SqT K H a xs∧SqL K H b ys)
 (hs:∀ i u v p σ H,xs[i]?=some u→ys[i]?=some v→H p=none→Pv i σ H→g (.ref p) σ (upd H p (.tup [u,v])) fun σ2 H2=>tb { D with nx:=Pv (i + 1),ct:=Pv (i + 1),bk:=D.nx } σ2 H2) (hd:∀ σ H,Pv xs.length σ H→D.nx σ H) :
 ∃ W:Nat→Nat→St→Hp→Prop,(∃ m,W 0 m σ H)∧∀ i m σ H,W i m σ H →
  ((LS K a b xs ys).stop i H∧D.nx σ H)∨((LS K a b xs ys).go i H∧∃ N:St→Hp→Prop,(23:)∧∀ x H',(LS K a b xs ys).yld i H x H'→g x σ H' fun σ2 H2=>tb { D with nx:=N,ct:=N,bk:=D.nx } σ2 H2):=by
 refine (59:)
 rintro i m σ H ⟨rfl,hi,p⟩
 obtain ⟨qa,qb⟩:=hl i σ H hi p
 by_cases h:i < xs.length
 ·refine .inr ⟨⟨qa,qb,h,by lia⟩,Pv (i + 1),fun σ' H' p'=>⟨xs.length - (i + 1),by lia,rfl,h,p'⟩,?_⟩
  rintro x H' ⟨p',u,v,hp,rfl,rfl,hu,hv⟩
  exact hs i u v p' σ H hu hv hp p
 ·have e:i=xs.length:=by lia
  subst e
  exact .inl ⟨⟨qa,Nat.le_refl _⟩,hd σ H p⟩
end L2
namespace K25
open PySem L2 TM TT K9 K11
def top (i:Nat):Stmt:=PySem.Challenge.pw_turnery_k25_trees_of_no_kind.main.body.getD i (.Pass ⟨0,0,0,0⟩)
abbrev PQ:Stmt:=top 1
abbrev sCO:Stmt:=top 2
abbrev sMP:Stmt:=top 3
abbrev sPH:Stmt:=top 4
abbrev sHN:Stmt:=top 10
abbrev Xf:Stmt:=top 12
abbrev Vd:Stmt:=top 13
abbrev X4:Stmt:=top 14
abbrev Ur:Stmt:=top 15
abbrev UE:Stmt:=top 16
abbrev Mm:Stmt:=top 18
abbrev OP:Stmt:=top 20
abbrev Va:Stmt:=top 21
abbrev UY:Stmt:=top 22
abbrev Ms:Stmt:=top 23
abbrev Jo:Stmt:=top 24
abbrev Vw:Stmt:=top 26
abbrev Vx:Stmt:=top 27
abbrev Ym:Stmt:=top 28
abbrev Yn:Stmt:=top 29
abbrev VI:Stmt:=top 30
abbrev Uv:Stmt:=top 31
abbrev XI:Stmt:=top 32
abbrev WG:Stmt:=top 33
abbrev Us:Stmt:=top 37
abbrev Yg:Stmt:=top 38
abbrev Zm:Stmt:=top 39
abbrev Lf:Stmt:=top 41
abbrev WM:Stmt:=top 42
abbrev W9:Stmt:=top 43
abbrev WT:Stmt:=top 44
abbrev VP:Stmt:=top 45
abbrev JG:Stmt:=top 46
abbrev WI:Stmt:=top 47
abbrev UR:Stmt:=top 48
abbrev MP:Stmt:=top 49
abbrev UW:Stmt:=top 50
abbrev U0:Stmt:=top 51
abbrev LX:Stmt:=top 52
abbrev Me:Stmt:=top 53
abbrev Xd:Stmt:=top 54
abbrev ML:Stmt:=top 55
abbrev J9:Stmt:=top 56
abbrev WK:Stmt:=top 57
abbrev Wt:Stmt:=top 58
structure Gm (mg:Str→Option Value):Prop where
 len:mg "len" = none
 isi:mg "isinstance" = none
 int:mg "int" = none
 boo:mg "bool" = none
 str:mg "str" = none
 tup:mg "tuple" = none
 lst:mg "list" = none
 rng:mg "range" = none
 zip:mg "zip" = none
 dct:mg "dict" = none
 all:mg "all" = none
 srt:mg "sorted" = none
 rev:mg "reversed" = none
 sum:mg "sum" = none
 max:mg "max" = none
theorem ZQ {K:PySem.W.Frag} {H:Hp} {v:V} {t:Tm} (h:TmV K H v t):(∃ a m b,v=.ref a∧t=ZB m b∧SqT K H a [.str YX,.int m,.int b]) ∨
 ∃ a b vs n k ad,v=.ref a∧t=.node (.put n k ad) 0 t.bs∧SqT K H a [.str PUT,.str n,.bl k,.int ad,.ref b]∧SqT K H b vs∧TmAll K H vs t.bs∧vs.length≤1000:=by
 cases h with
 | call h=>exact .inl ⟨_,_,_,rfl,rfl,h⟩
 | put h1 h2 h3 h4=>exact .inr ⟨_,_,_,_,_,_,rfl,rfl,h1,h2,h3,h4⟩
theorem UB {α:Type} {p:α→Bool}:∀ {l:List α} {i:Nat} {x:α},l[i]?=some x→p x=true→(∀ (j:Nat) y,j < i→l[j]?=some y→p y=false)→l.find? p=some x
 | [],i,x,h,_,_=>by simp at h
 | a :: r,0,x,h,hp,_=>by
  have:a=x:=by simpa using h
  subst this
  rw [List.find?_cons,hp]
 | a :: r,i + 1,x,h,hp,hn=>by
  have h0:=hn 0 a (10:) rfl
  rw [List.find?_cons,h0]
  exact UB (i:=i) (by simpa using h) hp fun j y hj e=>hn (j + 1) y (10:) (by simpa using e)
theorem N4 {α:Type} {p:α→Bool} {l:List α} (h:∀ (j:Nat) y,l[j]?=some y→p y=false):l.find? p=none:=by
 rw [List.find?_eq_none]
 intro x hx
 obtain ⟨j,hj,e⟩:=List.getElem_of_mem hx
 have:=h j x (by rw [List.getElem?_eq_getElem hj,e])
 simp [this]
def UO (K:PySem.W.Frag):Sp:=fun vs H Q _=>∃ (v:V) (t:Tm),vs=[v]∧TmV K H v t∧Q (.bl (isC (lab t))) H
def YJ (K:PySem.W.Frag):Sp:=fun vs H Q _=>∃ (w:Addr) (kind:Str) (ks:List KdT),vs=[.ref w,.str kind]∧WoodAt K H w ks∧WoodOk ks∧∀ (lr:Addr) (H':Hp),Same H H'→RowsL K H' lr (Qy ks kind)→Q (.ref lr) H'
def Ut (K:PySem.W.Frag):Sp:=fun vs H Q _=>∃ (w:Addr) (kind name:Str) (ks:List KdT),vs=[.ref w,.str kind,.str name]∧WoodAt K H w ks∧WoodOk ks∧∀ (v:V) (H':Hp),Same H H'→Sz K H' v (QD ks kind name)→Q v H'
def Z6 (K:PySem.W.Frag) (n:Nat):Sp:=fun vs H Q _=>∃ (w:Addr) (kind:Str) (v:V) (t:Tree Str) (ks:List KdT),vs=[.ref w,.str kind,v]∧WoodAt K H w ks∧WoodOk ks∧TrV K H v t∧lv t≤n∧∀ H':Hp,Same H H'→Q (.bl (isT (QD ks) t kind)) H'
def J0 (K:PySem.W.Frag):Sp:=fun vs H Q _=>∃ (p w lm:Addr) (v:V) (i:Nat) (name:Str) (ks:List KdT) (ms:List MdT) (m:MdT),vs=[.ref p,.int (i:Int),.str name]∧SqT K H p [.ref w,v,.ref lm]∧WoodAt K H w ks∧WoodOk ks∧ModesL K H lm ms∧ms[i]?=some m∧m.2.2.2.2.length=(Qy ks m.2.1).length∧∀ v' H',Same H H'→TmO K H' v' (Zv ks m.md name)→Q v' H'
def Xk (K:PySem.W.Frag):Sp:=fun vs H Q _=>∃ (a:Addr) (ns:List Int) (k:Int),vs=[.ref a,.int k]∧0≤k∧SqL K H a (ns.map V.int)∧∀ c:Int,Q (.int c) H
def Pz (K:PySem.W.Frag):Sp:=fun vs H Q _=>∃ (v:V) (n:Str) (k:Bool) (ad m:Int) (ts:List Tm),vs=[v,.int m]∧TmV K H v (.node (.put n k ad) 0 ts)∧∀ (p:Addr) (H':Hp),Same H H'→H' p=some (.tup [.str n,.int (if k=true then ad + m else ad),.int ((ts.length:Nat):Int)])→Q (.ref p) H'
def NM (K:PySem.W.Frag):Sp:=fun vs H Q _=>∃ (v:V) (n:Str) (k:Bool) (ad m:Int) (ts:List Tm),vs=[v,.int m]∧TmV K H v (.node (.put n k ad) 0 ts)∧Q (.int (if k=true then ad + m else ad)) H
def Pg (K:PySem.W.Frag):Sp:=fun vs H Q _=>∃ (b:Addr) (xs:List V) (i:Int),vs=[.ref b,.int i]∧SqT K H b xs∧Q (.bl (decide (0≤i∧i < (xs.length:Int)))) H
def Uz (K:PySem.W.Frag):Sp:=fun vs H Q _=>∃ (v:V) (t:Tree Str),vs=[v]∧TrV K H v t∧∀ (v':V) (H':Hp),Same H H'→TrV K H' v' (upT t)→Q v' H'
section
variable {P:Program} {w:World} {K:PySem.W.Frag} {mg:Str→Option Value} {base:Heap} {f:Addr} {fd:FuncData}
theorem Rm:FnScope ["term"] ["term"] (defScope PQ):=(1:)
theorem PN (F:Fun K "is_call" "is_call" PQ f fd):FnOk P w K mg base CX0 1 f fd ["term"] (UO K):=by
 refine F.ok Rm (8:) (4:)
 ·obtain ⟨v,t,rfl,_⟩:=h
  rfl
 obtain ⟨v,t,rfl,ht,q⟩:=h
 refine ⟨_,(Qh (Qp (Yk Zc (25:) Q5 (QA _)))),?_⟩
 rcases ZQ ht with ⟨a,m,b,rfl,rfl,h1⟩ | ⟨a,b,bs,n,k,ad,rfl,et,h1,h2,h3,h4⟩
 ·refine ⟨_,rfl,a,_,0,_,rfl,rfl,h1,rfl,rfl,?_⟩
  have e:decide (V.str YX=V.str YX)=true:=decide_eq_true rfl
  show Q (.bl (decide (V.str YX=V.str YX))) H
  rw [e];exact q
 ·refine ⟨_,rfl,a,_,0,_,rfl,rfl,h1,rfl,rfl,?_⟩
  have e:decide (V.str PUT=V.str YX)=false:=by decide +kernel
  show Q (.bl (decide (V.str PUT=V.str YX))) H
  rw [et] at q
  rw [e];exact q
theorem LB:FnScope ["wood", "kind"] ["wood", "kind"] (defScope Xf):=(1:)
theorem GL (F:Fun K "rows_of" "rows_of" Xf f fd) (G:Gm mg):FnOk P w K mg base CX0 1 f fd ["wood", "kind"] (YJ K):=by
 refine F.ok LB (8:) (4:)
 ·obtain ⟨w,kind,ks,rfl,_⟩:=h
  rfl
 obtain ⟨wd,kind,ks,rfl,hW,hO,q⟩:=h
 refine ⟨_,(Qh (Qp (Mr (Yw hr) (Qx (Zf rfl) rfl G.dct PyProof.Rows.boot_dict (Qa (pv 0) Qc)) (pv 1) (QF Qc) ⟨rfl,rfl,rfl,rfl⟩))),?_⟩
 have hlen:=hO.len
 refine ⟨_,rfl,wd,ks.map (fun k=>(k.1,k.2.1,V.ref k.2.2.1)),rfl,(by rw [List.map_map];exact hW.1),fun t ht=>?_,(by rw [List.map_map];exact hO.nd),(29:),fun d hd=>⟨d,rfl,.inl ⟨_,.inl Qb⟩,_,rfl,(15:),fun p hp=>⟨_,DGet.k (k:=Sum.inr kind) ((Qf hp _) _ _ Qb),?_⟩⟩⟩
 ·obtain ⟨k,hk,rfl⟩:=List.mem_map.mp ht
  exact (hW.2 k hk).1
 ·have g1:=Qf hd (.dK ((ks.map (fun k=>(k.1,k.2.1,V.ref k.2.2.1))).map fun t=>((Sum.inr t.2.1:Key),t.2.2)))
  have g2:=Qf hp (.lst [])
  have g12:=g1.trans g2
  have ev:Zp ((ks.map (fun k=>(k.1,k.2.1,V.ref k.2.2.1))).map fun t=>((Sum.inr t.2.1:Key),t.2.2)) (Sum.inr kind)=(ks.find? fun k=>decide (k.2.1=kind)).map fun k=>V.ref k.2.2.1:=by
   rw [List.map_map]
   exact Uw (fun k:KdT=>k.2.1) (fun k=>V.ref k.2.2.1) kind ks
  rw [ev]
  unfold Qy at q
  cases e:ks.find? fun k=>decide (k.2.1=kind) with
  | none =>
   rw [e] at q
   exact q p _ g12 ⟨SqL.of Qb,fun t ht=>(nomatch ht)⟩
  | some k =>
   rw [e] at q
   exact q k.2.2.1 _ g12 ((hW.2 k (List.mem_of_find?_eq_some e)).2.same g12)
theorem NJ:FnScope ["wood", "kind", "name"] ["wood", "kind", "name"] (defScope Vd):=(1:)
theorem Ma (F:Fun K "row_of" "row_of" Vd f fd) (G:Gm mg) (RO:Fn P w K mg base 1 "rows_of" ["wood", "kind"] (YJ K)):FnOk P w K mg base CX0 2 f fd ["wood", "kind", "name"] (Ut K):=by
 refine F.ok NJ (8:) (4:)
 ·obtain ⟨w,kind,name,ks,rfl,_⟩:=h
  rfl
 obtain ⟨wd,kind,name,ks,rfl,hW,hO,q⟩:=h
 refine ⟨_,(Qh (Qp (G4 (Yw hr) (Qx (Zf rfl) rfl G.dct PyProof.Rows.boot_dict (Qa (Qq RO hr (Qa (pv 0) (56:))) Qc)) (pv 2) ⟨rfl,rfl,rfl,rfl⟩))),?_⟩
 refine ⟨_,rfl,_,rfl,wd,kind,ks,rfl,hW,hO,fun lr H1 g1 hR=>?_⟩
 have hRo:=Z8 hO kind
 have hlen:=hRo.len
 refine ⟨lr,(Qy ks kind).map (fun r=>(r.1,r.2.1,V.ref r.2.2.1)),rfl,(by rw [List.map_map];exact hR.1),fun t ht=>?_,(by rw [List.map_map];exact hRo.nd),(29:),fun d hd=>⟨d,rfl,.inl ⟨_,.inl Qb⟩,_,rfl,_,DGet.k (k:=Sum.inr name) Qb,?_⟩⟩
 ·obtain ⟨k,hk,rfl⟩:=List.mem_map.mp ht
  exact (hR.2 k hk).1
 ·have g2:=Qf hd (.dK (((Qy ks kind).map (fun r=>(r.1,r.2.1,V.ref r.2.2.1))).map fun t=>((Sum.inr t.2.1:Key),t.2.2)))
  have ev:Zp (((Qy ks kind).map (fun r=>(r.1,r.2.1,V.ref r.2.2.1))).map fun t=>((Sum.inr t.2.1:Key),t.2.2)) (Sum.inr name)=((Qy ks kind).find? fun r=>decide (r.2.1=name)).map fun r=>V.ref r.2.2.1:=by
   rw [List.map_map]
   exact Uw (fun r:PNx=>r.2.1) (fun r=>V.ref r.2.2.1) name (Qy ks kind)
  rw [ev]
  unfold QD at q
  cases e:(Qy ks kind).find? fun r=>decide (r.2.1=name) with
  | none =>
   rw [e] at q
   exact q .non _ (g1.trans g2) rfl
  | some r =>
   rw [e] at q
   exact q (.ref r.2.2.1) _ (g1.trans g2) ⟨_,rfl,g2.seqT (hR.2 r (List.mem_of_find?_eq_some e)).2⟩
theorem WH:FnScope ["wood", "kind", "tree", "branches", "kinds"] ["wood", "kind", "tree"] (defScope X4):=(1:)
theorem Nj {n:Nat} (F:Fun K "is_of" "is_of" X4 f fd) (G:Gm mg) (RR:Fn P w K mg base 2 "row_of" ["wood", "kind", "name"] (Ut K)) (R:Fn P w K mg base (n + 2) "is_of" ["wood", "kind", "tree"] (Z6 K n)):FnOk P w K mg base CX0 (n + 3) f fd ["wood", "kind", "tree"] (Z6 K (n + 1)):=by
 refine F.ok WH (8:) (4:)
 ·obtain ⟨w,kind,v,t,ks,rfl,_⟩:=h
  rfl
 obtain ⟨wd,kind,v,t,ks,rfl,hW,hO,ht,hlv,q⟩:=h
 refine ⟨_,(Qe (Qn (i:=3) WH.nd rfl (12:) (Qj Qk (pv 2) Qd (2:)))
  (Qe (Qn (i:=4) WH.nd rfl (12:) (Qq RR hr (Qa (pv 0) (Qa (pv 1) (Qa (Qj Qk (pv 2) Qd (2:)) Qc))) (Nat.le_add_left 2 n)))
  (Qe (QL (PW.pt (pw_or (MR (ON (pv 4))) (pw_or1 (Qw Os (49:) (Qr Qo rfl G.len PySem.boot_len (Qa (pv 3) Qc)) (QA _))))) (Qh (Qp ZK)) Qu)
  (Qh (Qp (Qr (Gw rfl) rfl G.all PyProof.Rows.boot_all (Qa (QP (CompG.many (xs:=["wanted", "branch"]) (caps:=["wood"]) (cap:=[0]) (cs:=[_]) rfl rfl (0:) (0:) (0:) (0:) (0:) (0:) rfl rfl rfl) rfl (Vp rfl G.zip (Qa (pv 4) (Qa (pv 3) Qc))) (Wp (CompG.many (xs:=["wanted", "branch"]) (caps:=["wood"]) (cap:=[0]) (cs:=[_]) rfl rfl (0:) (0:) (0:) (0:) (0:) (0:) rfl rfl rfl) rfl) (fun _ _ _ _=>Q2) (fun _ _ _ _=>Qq R hr (Qa (pv 2) (Qa (pv 0) (56:))) (7:))) Qc))))))),?_⟩
 obtain ⟨a,b,bs,name,mark,rfl,et,h1,h2,h3,hbl⟩:=Ux ht
 have hlen:=h3.length
 rw [Ub _ et] at q
 rw [Zg] at hlv
 refine ⟨_,rfl,a,_,2,_,rfl,rfl,h1,rfl,?_⟩
 refine ⟨_,rfl,_,rfl,_,rfl,a,_,0,_,rfl,rfl,h1,rfl,wd,kind,name,ks,rfl,hW,hO,fun rv H1 g1 hrv=>?_⟩
 cases e:QD ks kind name with
 | none =>
  rw [e] at hrv q
  cases (show rv=.non from hrv)
  exact ⟨_,rfl,_,rfl,LF rfl (q H1 g1)⟩
 | some ss =>
  rw [e] at hrv q
  obtain ⟨br,rfl,hbr⟩:=hrv
  refine ⟨_,rfl,_,rfl,L5 (43:) ⟨_,rfl,br,_,rfl,.inr hbr,_,rfl,b,_,rfl,.inr (g1.seqT h2),rfl,_,rfl,?_⟩⟩
  by_cases hl:ss.length=t.bs.length
  ·refine Ou (by rw [List.length_map,hl,hlen]) ?_
   refine ⟨_,rfl,_,rfl,br,b,_,bs,rfl,hbr,g1.seqT h2,fun acc hacc=>?_⟩
   have hzl:(ss.map V.str).length=bs.length:=by rw [List.length_map,hl,hlen]
   refine NX (K:=K) (xs:=ss.map V.str) (zs:=bs) (cs:=[some (.ref wd)]) (tt:=fun _ H Q=>Q true H) (te:=Wj (Z6 K n) [] E0 (Q0 (Zi 2) (Q0 (Zi 0) (Q0 (Zi 1) Jf)))) hzl (fun i ys H'=>H' acc=some (.lst ys)∧Same H1 H'∧ys=((List.zipWith (fun s b=>isT (QD ks) b s) ss t.bs).take i).map V.bl)
    ⟨Qb,Qf hacc _,rfl⟩ ?_ ?_ ?_
   ·rintro i ys H' _ ⟨_,g,_⟩
    exact ⟨g.seqT hbr,(g1.trans g).seqT h2⟩
   ·rintro i u v p ys H' hi hu hv hp ⟨hya,g,rfl⟩
    have his:i < ss.length:=by simpa using hi
    have hib:i < t.bs.length:=by lia
    have hib':i < bs.length:=by lia
    obtain ⟨cv,hcv,hct⟩:=h3.get (List.getElem?_eq_getElem hib)
    obtain rfl:cv=v:=Option.some.inj (hcv.symm.trans hv)
    obtain rfl:u=.str ss[i]:=by
     rw [List.getElem?_map,List.getElem?_eq_getElem his] at hu
     exact (Option.some.inj hu).symm
    have gp:=Qf hp (.tup [.str ss[i],cv])
    have gg:=g1.trans (g.trans gp)
    have a1:=Yv (List.getElem_mem hib)
    refine QZ ⟨_,rfl,_,rfl,_,rfl,wd,ss[i],cv,t.bs[i],ks,rfl,hW.same gg,hO,hct.mono fun _ _=>gg.seqT,by lia,fun H4 g4=>?_⟩
    refine QB hi (g4 _ _ (gp _ _ hya)) (by rw [List.length_map,List.length_take,List.length_zipWith];lia) ⟨Qb,fun x u e=>?_,?_⟩
    ·rw [Qg (Qi e hacc)];exact g4 _ _ (gp _ _ (g _ _ e))
    ·rw [List.take_add_one,List.getElem?_zipWith,List.getElem?_eq_getElem his,List.getElem?_eq_getElem hib,List.map_append]
     rfl
   rintro ys H2 ⟨hya,g2,rfl⟩
   rw [List.take_of_length_le (by rw [List.length_zipWith,List.length_map];lia)] at hya
   refine ⟨acc,_,rfl,SqL.of hya,?_⟩
   have q':=q H2 (g1.trans g2)
   simp only [hl,decide_true,Bool.true_and,X1 _ _ _ hl] at q'
   exact q'
  ·have e2:(!decide (V.int (((ss.map V.str).length:Nat):Int)=V.int ((bs.length:Nat):Int)))=true:=by
    rw [List.length_map,decide_eq_false]
    ·rfl
    ·intro z
     injection z with z
     lia
   rw [e2]
   refine QZ ?_
   have q':=q H1 g1
   simp only [hl,decide_false,Bool.false_and] at q'
   exact q'
theorem GA {k:Nat}:FnOk P w K mg base CX0 k f fd ["wood", "kind", "tree"] (Z6 K 0):=by
 have no:∀ vs H Q E,¬ Z6 K 0 vs H Q E:=fun vs H Q E h=>by
  obtain ⟨w,kind,v,t,ks,_,_,_,_,h0,_⟩:=h
  rw [Zg] at h0;lia
 exact (28:)
theorem Wk (F:Fun K "is_of" "is_of" X4 f fd) (G:Gm mg) (RR:Fn P w K mg base 2 "row_of" ["wood", "kind", "name"] (Ut K)) (hb:Binds K fd ["wood", "kind", "tree"] []) (hm:mg "is_of" = some (.ref f)):∀ n:Nat,FnOk P w K mg base CX0 (n + 2) f fd ["wood", "kind", "tree"] (Z6 K n)
 | 0=>GA
 | n + 1=>Nj F G RR ⟨f,fd,Wk F G RR hb hm n,hb,F.kp,hm⟩
theorem U7:FnScope ["turning", "mode", "name", "kind", "rules", "row", "rule"] ["turning", "mode", "name"] (defScope Mm):=(1:)
theorem Op (F:Fun K "rule_of" "rule_of" Mm f fd) (G:Gm mg) (RO:Fn P w K mg base 1 "rows_of" ["wood", "kind"] (YJ K)):FnOk P w K mg base CX0 2 f fd ["turning", "mode", "name"] (J0 K):=by
 refine F.ok U7 (8:) (4:)
 ·obtain ⟨p,wd,lm,v,i,name,ks,ms,m,rfl,_⟩:=h
  rfl
 obtain ⟨p,wd,lm,v,i,name,ks,ms,m,rfl,hp,hW,hO,hM,hm,hlen,q⟩:=h
 refine ⟨_,(Qe (Qn (i:=3) U7.nd rfl (12:) (Qj Qk (Qj Qm (25:) (pv 1) (2:)) Qd (2:)))
  (Qe (Qn (i:=4) U7.nd rfl (12:) (Qj Qk (Qj Qm (25:) (pv 1) (2:)) Qd (2:)))
  (Qe (QU PassesOwn.never rfl (OH rfl G.zip (Qa (Qq RO hr (Qa (25:) (Qa (pv 3) Qc))) (Qa (pv 4) Qc))) (UG rfl (Q4 (QC (i:=5) U7.nd rfl (12:)) (Q4 (QC (i:=6) U7.nd rfl (12:)) YL)))
   (Qh (QL (Qw Zc (Qj Qk (pv 5) Qd (2:)) (pv 2) (QA _)) (Qh (Qp (pv 6))) Qu)))
  (Qh (Qp Y7))))),?_⟩
 have hmm:=List.mem_of_getElem? hm
 have hA:=hM.2 m hmm
 have hat:atI (47:) (i:Int)=some (.ref m.1):=Qv (by rw [List.getElem?_map,hm];rfl)
 refine ⟨_,rfl,p,_,2,_,rfl,rfl,hp,rfl,_,rfl,lm,_,_,_,rfl,rfl,hM.1,hat,m.1,_,0,_,rfl,rfl,hA.1,rfl,?_⟩
 refine ⟨_,rfl,p,_,2,_,rfl,rfl,hp,rfl,_,rfl,lm,_,_,_,rfl,rfl,hM.1,hat,m.1,_,1,_,rfl,rfl,hA.1,rfl,?_⟩
 refine ⟨_,rfl,p,_,0,_,rfl,rfl,hp,rfl,_,rfl,wd,m.2.1,ks,rfl,hW,hO,fun lr H1 g1 hR=>⟨_,rfl,lr,m.2.2.1,_,m.2.2.2.1,rfl,hR.1,g1.seq hA.2.1,?_⟩⟩
 have hul:=hA.2.2.length
 have elr:((Qy ks m.2.1).map fun t=>V.ref t.1).length=(Qy ks m.2.1).length:=List.length_map ..
 refine Oh (K:=K) (by rw [elr];lia) (fun j σ H'=>∃ c5 c6,σ=[some (.ref p),some (.int (i:Int)),some (.str name),some (.str m.2.1),some (.ref m.2.2.1),c5,c6]∧Same H1 H'∧∀ (k:Nat) r,k < j→(Qy ks m.2.1)[k]?=some r→r.2.1≠name)
  ⟨none,none,rfl,Same.refl _,fun k r hk _=>by lia⟩ ?_ ?_ ?_
 ·rintro j σ H' _ ⟨c5,c6,_,g,_⟩
  exact ⟨g.seq hR.1,(g1.trans g).seq hA.2.1⟩
 ·rintro j u v' pp σ H' hu hv hpp ⟨c5,c6,rfl,g,hno⟩
  have hjr:j < (Qy ks m.2.1).length:=by
   have:=(List.getElem?_eq_some_iff.mp hu).1
   simpa using this
  have hjt:j < m.2.2.2.2.length:=by lia
  obtain ⟨cv,hcv,hct⟩:=hA.2.2.get (List.getElem?_eq_getElem hjt)
  obtain rfl:cv=v':=Option.some.inj (hcv.symm.trans hv)
  obtain rfl:u=.ref (Qy ks m.2.1)[j].1:=by
   rw [List.getElem?_map,List.getElem?_eq_getElem hjr] at hu
   exact (Option.some.inj hu).symm
  have gp:=Qf hpp (.tup [.ref (Qy ks m.2.1)[j].1,cv])
  have gg:=g1.trans (g.trans gp)
  have hRA:=(hR.2 _ (List.getElem_mem hjr)).same (g.trans gp)
  refine ⟨pp,_,rfl,SqT.of Qb,rfl,_,_,rfl,_,_,rfl,rfl,?_⟩
  refine ⟨_,rfl,_,_,0,_,rfl,rfl,hRA.1,rfl,_,rfl,rfl,_,rfl,?_⟩
  by_cases he:(Qy ks m.2.1)[j].2.1=name
  ·refine LF (by rw [he]) ⟨_,rfl,q cv _ gg ?_⟩
   have ef:((Qy ks m.2.1).zip m.2.2.2.2).find? (fun x=>decide (x.1.2.1=name))=some ((Qy ks m.2.1)[j],m.2.2.2.2[j]):=by
    refine UB (i:=j) (by rw [List.getElem?_zip_eq_some];exact ⟨List.getElem?_eq_getElem hjr,List.getElem?_eq_getElem hjt⟩) (decide_eq_true he) fun k y hk e=>?_
    rw [List.getElem?_zip_eq_some] at e
    exact decide_eq_false (hno k y.1 hk e.1)
   unfold Zv MdT.md
   rw [ef]
   exact hct.mono fun _ _=>gg.seqT
  ·refine L5 (fun z=>he (by injection z)) ⟨_,_,rfl,g.trans gp,fun k r hk e=>?_⟩
   by_cases hkj:k=j
   ·subst hkj
    rw [List.getElem?_eq_getElem hjr] at e
    cases e
    exact he
   ·exact hno k r (10:) e
 ·rintro σ H' ⟨c5,c6,rfl,g,hno⟩
  refine q .non H' (g1.trans g) ?_
  have ef:((Qy ks m.2.1).zip m.2.2.2.2).find? (fun x=>decide (x.1.2.1=name))=none:=by
   refine N4 fun k y e=>?_
   rw [List.getElem?_zip_eq_some] at e
   have hk:=(List.getElem?_eq_some_iff.mp e.1).1
   exact decide_eq_false (hno k y.1 (by rw [elr];exact hk) e.1)
  unfold Zv MdT.md
  rw [ef]
  rfl
theorem OV:FnScope ["_law_script", "_law_k"] ["_law_script", "_law_k"] (defScope Lf):=(1:)
theorem On (F:Fun K "_law_cell_at" "_law_cell_at" Lf f fd) (G:Gm mg):FnOk P w K mg base CX0 1 f fd ["_law_script", "_law_k"] (Xk K):=by
 refine F.ok OV (8:) (4:)
 ·obtain ⟨a,ns,k,rfl,_⟩:=h
  rfl
 obtain ⟨a,ns,k,rfl,hk0,hS,q⟩:=h
 obtain ⟨j,rfl⟩ : ∃ j:Nat,k=(j:Int):=⟨k.toNat,by lia⟩
 refine ⟨_,(Qe (QL (Qw Vy (pv 1) (Qr Qo rfl G.len PySem.boot_len (Qa (pv 0) Qc)) (QA _)) (Qh (Qp (Qj Qm (pv 0) (pv 1) (2:)))) Qu)
  (Qh (Qp Qd))),?_⟩
 refine ⟨_,rfl,_,rfl,a,_,rfl,.inl hS,_,_,rfl,rfl,_,rfl,Zt (fun c=>?_) (fun c=>?_)⟩
 ·have c':(j:Int) < (((ns.map V.int).length:Nat):Int):=of_decide_eq_true c
  rw [List.length_map] at c'
  have hk:j < ns.length:=by lia
  exact ⟨_,rfl,_,rfl,a,_,j,.int ns[j],rfl,rfl,hS,Qv (by rw [List.getElem?_map,List.getElem?_eq_getElem hk];rfl),q _⟩
 ·exact q 0
theorem Si:FnScope ["term", "mark"] ["term", "mark"] (defScope sMP):=(1:)
theorem PY (F:Fun K "mark_put" "mark_put" sMP f fd):FnOk P w K mg base CX0 1 f fd ["term", "mark"] (NM K):=by
 refine F.ok Si (8:) (4:)
 ·obtain ⟨v,n,k,ad,m,ts,rfl,_⟩:=h
  rfl
 obtain ⟨v,n,k,ad,m,ts,rfl,ht,q⟩:=h
 refine ⟨_,(Qh (Qp (LO (ZW (25:)) (Ql QK (25:) (pv 1)) (25:)))),?_⟩
 cases ht with
 | put h1 h2 h3 h4 =>
  refine ⟨_,rfl,_,_,2,_,rfl,rfl,h1,rfl,_,rfl,?_⟩
  cases k with
  | true=>exact QZ ⟨_,rfl,_,_,3,_,rfl,rfl,h1,rfl,_,rfl,_,_,rfl,rfl,q⟩
  | false=>exact ZE ⟨_,rfl,_,_,3,_,rfl,rfl,h1,rfl,q⟩
theorem Sl:FnScope ["term", "mark"] ["term", "mark"] (defScope sPH):=(1:)
theorem RJ (F:Fun K "put_head" "put_head" sPH f fd) (G:Gm mg) (RM:Fn P w K mg base 1 "mark_put" ["term", "mark"] (NM K)):FnOk P w K mg base CX0 2 f fd ["term", "mark"] (Pz K):=by
 refine F.ok Sl (8:) (4:)
 ·obtain ⟨v,n,k,ad,m,ts,rfl,_⟩:=h
  rfl
 obtain ⟨v,n,k,ad,m,ts,rfl,ht,q⟩:=h
 refine ⟨_,(Qh (Qp (Qz (Qa (25:) (Qa (Qq RM hr (Qa (pv 0) (56:))) (Qa (Qr Qo rfl G.len PySem.boot_len (Qa (25:) Qc)) Qc)))))),?_⟩
 have ht':=ht
 cases ht with
 | @put a b vs _ _ _ _ h1 h2 h3 h4 =>
  refine ⟨_,rfl,a,_,1,_,rfl,rfl,h1,rfl,_,rfl,_,rfl,_,n,k,ad,m,ts,rfl,ht',?_⟩
  refine ⟨_,rfl,a,_,4,_,rfl,rfl,h1,rfl,b,vs,rfl,.inr h2,(21:),fun p hp=>?_⟩
  refine q p _ (Qf hp _) ?_
  rw [h3.length]
  exact Qb
theorem SA:FnScope ["branches", "number"] ["branches", "number"] (defScope sHN):=(1:)
theorem R9 (F:Fun K "has_number" "has_number" sHN f fd) (G:Gm mg):FnOk P w K mg base CX0 1 f fd ["branches", "number"] (Pg K):=by
 refine F.ok SA (8:) (4:)
 ·obtain ⟨b,xs,i,rfl,_⟩:=h
  rfl
 obtain ⟨b,xs,i,rfl,hb,q⟩:=h
 refine ⟨_,(Qe (QL (ZW (Qr Wa rfl G.isi PyProof.Rows.boot_isinstance (Qa (pv 1) (Qa (VD (v:=.ty "bool") rfl G.boo PyProof.Rows.boot_bool rfl) Qc)))) (Qh (Qp ZK)) Qu)
  (Qh (Qp (LQ P2 Vy Qd (pv 1) (Qr Qo rfl G.len PySem.boot_len (Qa (pv 0) Qc)))))),?_⟩
 refine ⟨_,rfl,_, "bool", _,false,rfl,.int _,rfl,_,rfl,ZE ?_⟩
 refine ⟨_,rfl,_,_,rfl,rfl,_,rfl,?_⟩
 refine Zt (fun c=>?_) (fun c=>?_)
 ·have c':(0:Int)≤i:=of_decide_eq_true c
  refine ⟨_,rfl,b,xs,rfl,.inr hb,_,_,rfl,rfl,?_⟩
  have e:decide (i < ((xs.length:Nat):Int))=decide (0≤i∧i < (xs.length:Int)):=by simp [c']
  show Q (.bl (decide (i < ((xs.length:Nat):Int)))) H
  rw [e];exact q
 ·have c':¬ (0:Int)≤i:=of_decide_eq_false (Bool.eq_false_iff.mpr c)
  have e:false=decide (0≤i∧i < (xs.length:Int)):=by simp [c']
  rw [e];exact q
theorem G2:FnScope ["wood", "kind", "tree"] ["wood", "kind", "tree"] (defScope Ur):=(1:)
theorem G0:FnScope ["wood", "tree"] ["wood", "tree"] (defScope UE):=(1:)
theorem NB:FnScope ["tree"] ["tree"] (defScope Va):=(1:)
theorem Xc:Str.ofString "" = S []:=by decide +kernel
theorem Lm (F:Fun K "above" "above" Va f fd):FnOk P w K mg base CX0 1 f fd ["tree"] (Uz K):=by
 refine F.ok NB (8:) (4:)
 ·obtain ⟨v,t,rfl,_⟩:=h
  rfl
 obtain ⟨v,t,rfl,ht,q⟩:=h
 refine ⟨_,(Qh (Qp (Qz (Qa (Q5) (Qa (Qd) (Qa ((Qz (Qa (pv 0) Qc))) Qc)))))),?_⟩
 refine ⟨_,rfl,(45:),fun p hp=>⟨(21:),fun p2 hp2=>?_⟩⟩
 have g1:=Qf hp (.tup [v])
 have g2:=Qf hp2 (.tup [.str (Str.ofString ""),.int 0,.ref p])
 refine q _ _ (g1.trans g2) ?_
 have h2:=SqT.of (K:=K) (Qb (H:=upd H p (.tup [v])) (a:=p2) (o:=.tup [.str (Str.ofString ""),.int 0,.ref p]))
 rw [Xc] at h2 ⊢
 exact .mk h2 (by rw [← Xc];exact g2.seqT (SqT.of Qb)) (.cons (by rw [← Xc];exact ht.mono fun _ _=>(g1.trans g2).seqT) .nil) (by show 1≤1000;decide)
end
end K25
namespace K25
open PySem L2 TM TT K9 K11
structure TurnAt (K:PySem.W.Frag) (H:Hp) (tu wd lm:Addr) (v:V) (ms:List MdT) (T:Tu):Prop where
 tu:SqT K H tu [.ref wd,v,.ref lm]
 w:WoodAt K H wd T.ks
 m:ModesL K H lm ms
 s:TmV K H v T.start
structure TurnOk (ms:List MdT) (T:Tu):Prop where
 wo:WoodOk T.ks
 me:mds ms=T.ms
 ok:TuOk T
 k0:∃ k,T.ks[0]?=some k∧k.2.1=T.k0
theorem TurnAt.same {K:PySem.W.Frag} {H H':Hp} {tu wd lm:Addr} {v:V} {ms:List MdT} {T:Tu} (g:Same H H') (h:TurnAt K H tu wd lm v ms T):TurnAt K H' tu wd lm v ms T :=
 ⟨g.seqT h.tu,h.w.same g,h.m.same g,h.s.mono fun _ _=>g.seqT⟩
theorem TurnOk.get {ms:List MdT} {T:Tu} (h:TurnOk ms T) {i:Nat} {md:Md} (e:T.ms[i]?=some md):∃ m,ms[i]?=some m∧m.md=md∧m.2.2.2.2.length=(Qy T.ks m.2.1).length:=by
 rw [← h.me,List.getElem?_map] at e
 cases em:ms[i]? with
 | none=>rw [em] at e;cases e
 | some m =>
  rw [em] at e
  obtain rfl:=Option.some.inj e
  refine ⟨m,rfl,rfl,?_⟩
  have hm:m.md ∈ T.ms:=by rw [← h.me];exact List.mem_map.mpr ⟨m,List.mem_of_getElem? em,rfl⟩
  have:=h.ok.rf _ hm
  unfold ZN at this
  simp only [Bool.and_eq_true,decide_eq_true_eq] at this
  exact this.1.2
def J7 (K:PySem.W.Frag):Sp:=fun vs H Q _=>∃ (tu wd lm:Addr) (sv:V) (ms:List MdT) (T:Tu) (v rv:V) (t:Tm) (r:Tree Str),vs=[.ref tu,v,rv]∧TurnAt K H tu wd lm sv ms T∧TurnOk ms T∧TmV K H v t∧TrV K H rv r∧St T (t,r)∧lv r≤60 ∧
 ∀ (p:Addr) (v' rv':V) (H':Hp),Same H H'→SqT K H' p [v',rv']→TmV K H' v' (come T.ks T.ms (t,r)).1→TrV K H' rv' (come T.ks T.ms (t,r)).2→Q (.ref p) H'
def YM (K:PySem.W.Frag):Sp:=fun vs H Q _=>∃ (tu wd lm:Addr) (sv:V) (ms:List MdT) (T:Tu) (v rv:V) (t:Tm) (r:Tree Str) (pl:Addr) (ns:List Int),vs=[.ref tu,v,rv,.ref pl]∧TurnAt K H tu wd lm sv ms T∧TurnOk ms T∧TmV K H v t∧TrV K H rv r∧St T (t,upT r)∧lv r≤40∧SqT K H pl (ns.map V.int) ∧
 (Z3 T (come T.ks T.ms (t,upT r)) ns=none→∀ H',Same H H'→Q .non H') ∧
 ∀ q,Z3 T (come T.ks T.ms (t,upT r)) ns=some q→∀ (p:Addr) (H':Hp),Same H H'→H' p=some (.tup [.str (Py q),.int (PX q),.int ((q.1.bs.length:Nat):Int)])→Q (.ref p) H'
theorem Oq (r:Tree Str):lv (upT r)=lv r + 1:=by simp only [upT,TM.lv,lvs];lia
def FW (K:PySem.W.Frag) (H:Hp) (tu:Addr) (v rv:V) (T:Tu) (t:Tm) (r:Tree Str) (m:Nat) (σ:L2.St) (H':Hp):Prop:=∃ (v' rv':V) (t':Tm) (r':Tree Str) (c5:Option V),m=lv r'∧σ=[some (.ref tu),some v,some rv,some v',some rv',c5]∧Same H H'∧TmV K H' v' t'∧TrV K H' rv' r'∧K25.St T (t',r')∧lv r'≤60∧come T.ks T.ms (t',r')=come T.ks T.ms (t,r)
section
variable {P:Program} {w:World} {K:PySem.W.Frag} {mg:Str→Option Value} {base:Heap} {f:Addr} {fd:FuncData}
theorem Yq:FnScope ["turning", "term", "tree", "rule", "read", "mode"] ["turning", "term", "tree"] (defScope WG):=(1:)
theorem La (F:Fun K "first_put" "first_put" WG f fd) (RC:Fn P w K mg base 1 "is_call" ["term"] (UO K)) (RR:Fn P w K mg base 2 "rule_of" ["turning", "mode", "name"] (J0 K)):FnOk P w K mg base CX0 3 f fd ["turning", "term", "tree"] (J7 K):=by
 refine F.ok Yq (8:) (4:)
 ·obtain ⟨tu,wd,lm,sv,ms,T,v,rv,t,r,rfl,_⟩:=h
  rfl
 obtain ⟨tu,wd,lm,sv,ms,T,v,rv,t,r,rfl,hT,hO,hv,hrv,hS,hl60,q⟩:=h
 refine ⟨_,(Qe (Qn (i:=3) Yq.nd rfl (12:) (pv 1))
  (Qe (Qn (i:=4) Yq.nd rfl (12:) (pv 2))
  (Qe (LW PassesOwn.never (ZW (Qq RC hr (Qa (pv 3) Qc))) (Qe (Qn (i:=5) Yq.nd rfl (12:) (Qj Qk (pv 3) Qd (2:)))
  (Qe (Qn (i:=4) Yq.nd rfl (12:) (Qj Qk (Qj Qk (pv 4) Qd (2:)) (Qj Qk (pv 3) Qd (2:)) (2:)))
  (Qh (Qn (i:=3) Yq.nd rfl (12:) (Qq RR hr (Qa (pv 0) (Qa (pv 5) (Qa (Qj Qk (pv 4) Qd (2:)) Qc)))))))))
  (Qh (Qp (Qz (Qa (pv 3) (Qa (pv 4) Qc)))))))),?_⟩
 refine ⟨_,rfl,_,rfl,?_⟩
 refine ⟨FW K H tu v rv T t r,⟨_,v,rv,t,r,none,rfl,rfl,Same.refl H,hv,hrv,hS,hl60,rfl⟩,?_⟩
 rintro m σ H' ⟨v',rv',t',r',c5,rfl,rfl,g,hv',hrv',hS',hl',hc'⟩
 refine ⟨_,rfl,v',t',rfl,hv',_,rfl,?_⟩
 rcases ZQ hv' with ⟨a,mo,b,rfl,rfl,h1⟩ | ⟨a,b,bs,nm,k,ad,rfl,et,h1,h2,h3,h4⟩
 ·obtain ⟨c,md,u,b0,m0,hcb,hm,hru,hum,hnx,hS2⟩:=hS'.next hO.ok (m:=mo) (b:=b) rfl
  refine QZ ⟨fun σ' H'=>∃ m',m' < lv r'∧FW K H tu v rv T t r m' σ' H',fun _ _ h=>h,?_⟩
  obtain ⟨ra,rb,rbs,rn,rm,rfl,er,hr1,hr2,hr3,hr4⟩:=Ux hrv'
  obtain ⟨cv,hcv,hct⟩:=hr3.get hcb
  have hat:atI rbs b=some cv:=by
   rw [show b=((b.toNat:Nat):Int) by lia]
   exact Qv hcv
  refine ⟨_,rfl,a,_,1,_,rfl,rfl,h1,rfl,?_⟩
  refine ⟨_,rfl,ra,_,2,_,rfl,rfl,hr1,rfl,_,rfl,a,_,2,_,rfl,rfl,h1,rfl,rb,_,b,cv,rfl,rfl,hr2,hat,?_⟩
  obtain ⟨ca,cb,cbs,cn,cm,rfl,ec,hc1,hc2,hc3,hc4⟩:=Ux hct
  obtain ⟨mT,hmT,emd,hml⟩:=hO.get hm
  have hT':=hT.same g
  have ecn:nmT c=cn:=by rw [ec];rfl
  refine ⟨_,rfl,_,rfl,_,rfl,ca,_,0,_,rfl,rfl,hc1,rfl,tu,wd,lm,sv,mo.toNat,cn,T.ks,ms,mT,(by rw [Int.toNat_of_nonneg m0];rfl),hT'.tu,hT'.w,hO.wo,hT'.m,hmT,hml,fun v2 H2 g2 ho=>?_⟩
  rw [emd,← ecn,hru] at ho
  have hlc:lv c≤lvs r'.bs:=Yv (List.mem_of_getElem? hcb)
  have hlr:=Zg r'
  exact ⟨lv c,by lia,v2,.ref ca,u,c,_,rfl,rfl,g.trans g2,ho,hct.mono fun _ _=>g2.seqT,hS2,by lia,by rw [← hc',JX hl' hnx]⟩
 ·have hc:isC (lab t')=false:=by rw [et];rfl
  rw [hc]
  refine ZE ⟨_,rfl,_,rfl,(44:),fun p hp=>?_⟩
  have g2:=Qf hp (.tup [.ref a,rv'])
  have e:come T.ks T.ms (t,r)=(t',r'):=by rw [← hc',X7 hc]
  rw [e] at q
  exact q p _ _ _ (g.trans g2) (SqT.of Qb) (hv'.mono fun _ _=>g2.seqT) (hrv'.mono fun _ _=>g2.seqT)
theorem Yb:FnScope ["turning", "term", "tree", "place", "here", "number", "parts"] ["turning", "term", "tree", "place"] (defScope XI):=(1:)
theorem V7 (F:Fun K "seen_by" "seen_by" XI f fd) (G:Gm mg) (RF:Fn P w K mg base 3 "first_put" ["turning", "term", "tree"] (J7 K)) (RA:Fn P w K mg base 1 "above" ["tree"] (Uz K)) (RH:Fn P w K mg base 1 "has_number" ["branches", "number"] (Pg K)) (RM:Fn P w K mg base 2 "put_head" ["term", "mark"] (Pz K)) :
 FnOk P w K mg base CX0 4 f fd ["turning", "term", "tree", "place"] (YM K):=by
 refine F.ok Yb (8:) (4:)
 ·obtain ⟨tu,wd,lm,sv,ms,T,v,rv,t,r,pl,ns,rfl,_⟩:=h
  rfl
 obtain ⟨tu,wd,lm,sv,ms,T,v,rv,t,r,pl,ns,rfl,hT,hO,hv,hrv,hS,hl40,hpl,qn,qs⟩:=h
 refine ⟨_,(Qe (Qn (i:=4) Yb.nd rfl (12:) (Qq RF hr (Qa (pv 0) (Qa (pv 1) (Qa (Qq RA hr (Qa (pv 2) Qc)) Qc)))))
  (Qe (QU PassesOwn.never rfl (Jr (pv 3)) (QC (i:=5) Yb.nd rfl (12:)) (Qe (Qn (i:=6) Yb.nd rfl (12:) (Qj Qk (Qj Qk (pv 4) Qd (2:)) Qd (2:)))
  (Qe (QL (J4 (ZW (Qq RH hr (Qa (pv 6) (Qa (pv 5) Qc))))) (Qh (Qp Y7)) Qu)
  (Qh (Qn (i:=4) Yb.nd rfl (12:) (Qq RF hr (Qa (pv 0) (Qa (Qj Qk (pv 6) (pv 5) (2:)) (Qa (Qj Qk (pv 4) Qd (2:)) Qc)))))))))
  (Qh (Qp (Qq RM hr (Qa (Qj Qk (pv 4) Qd (2:)) (Qa (Qj Qk (Qj Qk (pv 4) Qd (2:)) Qd (2:)) Qc))))))),?_⟩
 refine ⟨_,rfl,_,rfl,_,rfl,rv,r,rfl,hrv,fun uv H1 g1 huv=>?_⟩
 have hlu:=Oq r
 refine ⟨tu,wd,lm,sv,ms,T,v,uv,t,upT r,rfl,hT.same g1,hO,hv.mono fun _ _=>g1.seqT,huv,hS,by lia,fun p0 v0 r0 H2 g2 hp0 hv0 hr0=>?_⟩
 obtain ⟨hA1,hA2,hA3⟩:=Xg hO.ok 60 (t,upT r) (by show lv (upT r)≤60;lia) (7:) hS
 have hA:At T (come T.ks T.ms (t,upT r)):=⟨hA1,hA2,Nat.le_trans hA3 (by show lv (upT r)≤60;lia)⟩
 generalize come T.ks T.ms (t,upT r)=p at *
 have g12:=g1.trans g2
 refine ⟨_,rfl,pl,rfl,⟨_,g12.seqT hpl⟩,?_⟩
 refine XJ (K:=K) (xs:=ns.map V.int) (fun i σ H'=>∃ (c5 c6:Option V) (ph:Addr) (vh rh:V) (x:Tm × Tree Str),σ=[some (.ref tu),some v,some rv,some (.ref pl),some (.ref ph),c5,c6]∧Same H H'∧SqT K H' ph [vh,rh]∧TmV K H' vh x.1∧TrV K H' rh x.2∧Z3 T p (ns.take i)=some x∧At T x)
  ⟨none,none,p0,v0,r0,p,rfl,g12,hp0,hv0,hr0,rfl,hA⟩ ?_ ?_ ?_
 ·rintro i σ H' _ ⟨c5,c6,ph,vh,rh,x,_,g,_⟩
  exact g.seqT hpl
 ·rintro i y σ H' hy ⟨c5,c6,ph,vh,rh,x,rfl,g,hph,hvh,hrh,hse,hAx⟩
  obtain ⟨n,hn,rfl⟩ : ∃ n:Int,ns[i]?=some n∧y=.int n:=by
   rw [List.getElem?_map] at hy
   cases e:ns[i]? with
   | none=>rw [e] at hy;cases hy
   | some n=>rw [e] at hy;exact ⟨n,rfl,(Option.some.inj hy).symm⟩
  have hil:i < ns.length:=(List.getElem?_eq_some_iff.mp hn).1
  have hsplit:ns=ns.take i ++ n :: ns.drop (i + 1):=by
   have e1:ns.drop i=n :: ns.drop (i + 1):=by rw [List.drop_eq_getElem_cons hil,(List.getElem?_eq_some_iff.mp hn).2]
   rw [← e1,List.take_append_drop]
  rcases ZQ hvh with ⟨a,mo,b,rfl,ex,h1⟩ | ⟨a,b,bs,nm,k,ad,rfl,et,h1,h2,h3,h4⟩
  ·have:=hAx.pt
   rw [ex] at this;cases this
  have hlen:=h3.length
  refine ⟨_,rfl,ph,_,0,_,rfl,rfl,hph,rfl,a,_,4,_,rfl,rfl,h1,rfl,?_⟩
  refine ⟨_,rfl,_,rfl,b,bs,n,rfl,h2,_,rfl,?_⟩
  by_cases hin:0≤n∧n < ((bs.length:Nat):Int)
  ·have e:decide (0≤n∧n < ((bs.length:Nat):Int))=true:=decide_eq_true hin
   rw [e]
   obtain ⟨j,rfl⟩ : ∃ j:Nat,n=(j:Int):=⟨n.toNat,by lia⟩
   have hj:j < x.1.bs.length:=by lia
   obtain ⟨cv,hcv,hct⟩:=h3.get (List.getElem?_eq_getElem hj)
   have hst:=hAx.st.part (List.getElem_mem hj)
   refine ZE ⟨_,rfl,_,rfl,_,rfl,b,bs,(j:Int),cv,rfl,rfl,h2,Qv hcv,_,rfl,ph,_,1,_,rfl,rfl,hph,rfl,tu,wd,lm,sv,ms,T,cv,rh,x.1.bs[j],x.2,rfl,hT.same g,hO,hct,hrh,hst,hAx.lv,fun p1 v1 r1 H3 g3 hp1 hv1 hr1=>?_⟩
   have hstep:Yd T x (j:Int)=some (come T.ks T.ms (x.1.bs[j],x.2)):=by
    unfold Yd
    rw [if_pos (10:),Int.toNat_natCast,List.getElem?_eq_getElem hj];rfl
   refine ⟨_,_,p1,v1,r1,come T.ks T.ms (x.1.bs[j],x.2),rfl,g.trans g3,hp1,hv1,hr1,?_,hAx.step hO.ok hstep⟩
   rw [List.take_add_one,hn,Y3,hse]
   show Z3 T x [(j:Int)]=_
   simp only [Z3,hstep]
  ·have e:decide (0≤n∧n < ((bs.length:Nat):Int))=false:=decide_eq_false hin
   rw [e]
   refine QZ (qn ?_ H' g)
   rw [hsplit,Y3,hse]
   show Z3 T x (n :: ns.drop (i + 1))=none
   have hstep:Yd T x n=none:=by
    unfold Yd
    by_cases h0:0≤n
    ·rw [if_pos h0,List.getElem?_eq_none (10:)];rfl
    ·rw [if_neg h0]
   simp only [Z3,hstep]
 ·rintro σ H' ⟨c5,c6,ph,vh,rh,x,rfl,g,hph,hvh,hrh,hse,hAx⟩
  rw [List.take_of_length_le (by rw [List.length_map];exact Nat.le_refl _)] at hse
  rcases ZQ hvh with ⟨a,mo,b,rfl,ex,h1⟩ | ⟨a,b,bs,nm,k,ad,rfl,et,h1,h2,h3,h4⟩
  ·have:=hAx.pt
   rw [ex] at this;cases this
  have hlen:=h3.length
  obtain ⟨ra,rb,rbs,rn,rm,rfl,er,hr1,hr2,hr3,hr4⟩:=Ux hrh
  have hvx:TmV K H' (.ref a) (.node (.put nm k ad) 0 x.1.bs):=by rw [← et];exact hvh
  refine ⟨_,rfl,ph,_,0,_,rfl,rfl,hph,rfl,_,rfl,ph,_,1,_,rfl,rfl,hph,rfl,ra,_,1,_,rfl,rfl,hr1,rfl,.ref a,nm,k,ad,rm,x.1.bs,rfl,hvx,fun p2 H2 g2 hp2=>?_⟩
  have e1:Py x=nm:=by unfold Py;rw [et];rfl
  have e2:PX x=if k=true then ad + rm else ad:=by
   unfold PX;rw [et]
   have:mkT x.2=rm:=by rw [er];rfl
   simp only [lab,this]
  refine qs x hse p2 _ (g.trans g2) ?_
  rw [e1,e2]
  exact hp2
theorem OQ:FnScope ["turning", "tree", "place"] ["turning", "tree", "place"] (defScope VI):=(1:)
theorem Ll:FnScope ["turning", "mode", "tree", "place"] ["turning", "mode", "tree", "place"] (defScope Uv):=(1:)
end
end K25
namespace L2
open PySem PySem.Spec PyProof.Rows PySem.W
theorem YG:∀ {ss:List Str} {us:List Value},Vals (ss.map V.str) us→StrsAre us ss
 | [],_,.nil=>.nil
 | x :: r,_,.cons h t=>by
  obtain ⟨k,rfl⟩:=(show ∃ t,_=Value.str x t from h)
  exact .cons x k (YG t)
section
variable {X:Cx}
theorem VR:MtR X "str.join" (fun x vs H Q=>∃ (sep:Str) (l:Addr) (ss:List Str),x=.str sep∧vs=[.ref l]∧SqL X.K H l (ss.map V.str)∧(ss.map (·.length)).sum + ss.length * sep.length≤16777216∧Q (.str (Txt.join sep ss)) H):=by
 intro pins s σ H x xs v us Q I rx rv h
 obtain ⟨sep,l,ss,rfl,rfl,hl,hz,q⟩:=h
 obtain ⟨t,rfl⟩:=(show ∃ t,v=Value.str sep t from rx)
 obtain ⟨u,rfl,ru⟩:=rv.one
 obtain rfl:u=Value.ref l:=ru
 obtain ⟨its,r,p,_⟩:=I.list hl
 exact join_list p.isList (YG r) hz fun t' k=>⟨.str _,H,I.tok _,(54:),q⟩
theorem JW:Zs X (.type "range") (fun xs H Q=>∃ n:Int,xs=[.int n]∧0≤n∧n < 2 ^ 20∧∀ p,H p=none→Q (.ref p) (upd H p (.rng 0 n))):=by
 intro pins s σ H xs us Q I r h
 obtain ⟨n,rfl,h0,h1,q⟩:=h
 cases r with
 | cons r rr =>
  cases rr
  obtain ⟨t,rfl⟩:=r
  refine call_range_1 ?_
  refine ⟨.ref s.heap.objs.size,_,I.laid (a:=s.heap.objs.size) (o:=.rng 0 n) (fun b o e=>Heap.get?_push_of_some _ e) (7:) ⟨_,_,_,Heap.get?_push_size _ rfl⟩,rfl,q _ (I.hok.fresh (7:))⟩
end
theorem Uh:isSubtype (.type "range_iterator") (.type "reversed")=pure false:=by rw [isSubtype_type];kernel_rfl
section
variable {prog:Program} {w:World} {A:Around} {E:Value→Shared→Prop} {s:Shared}
theorem NS {r:Addr} {n:Int} {t u v:Tok} {Q:Value→Shared→Prop} (hr:s.heap.get? r=some { cls:=.type "range", data:=.fields #[.int 0 t,.int n u,.int 1 v] }) (h0:0≤n) (h1:n < 2 ^ 20)
 (h:Q (57:) { s with heap:=s.heap.push { cls:=.type "range_iterator", data:=.fields #[rawInt (n - 1),rawInt n,rawInt (-1)] } }):wpAny (17:) A (call (.builtin "range.__reversed__") [.ref r]) Q E s:=by
 have ht:s.TypeIs (.ref r) "range" := ⟨_,hr,rfl⟩
 refine wpAny_call_entry PySem.F.slot_range_reversed ht PySem.F.entry_range_reversed ?_ (PySem.F.args_range_reversed_1 _)
 unfold Builtin.«range.__reversed__»
 refine wpAny_bind (wpAny_of_eq (a:=Value.ref r) rfl ?_)
 refine wpAny_bind ?_
 unfold Builtin.Range.rangeFields
 refine wpAny_bind (wpAny_field hr rfl (x:=.int 0 t) rfl ?_)
 refine wpAny_bind (m:=asInt? (.int 0 t)) (wpAny_pure ?_)
 refine wpAny_bind (wpAny_field hr rfl (x:=.int n u) rfl ?_)
 refine wpAny_bind (m:=asInt? (.int n u)) (wpAny_pure ?_)
 refine wpAny_bind (wpAny_field hr rfl (x:=.int 1 v) rfl ?_)
 refine wpAny_bind (m:=asInt? (.int 1 v)) (wpAny_pure ?_)
 refine wpAny_pure ?_
 dsimp only
 have hsz:Builtin.Range.rangeSize 0 n 1=n:=by
  unfold Builtin.Range.rangeSize
  simp only [show ((1:Int) > 0) by decide,if_true]
  split <;> lia
 have hsm:(Builtin.Range.rangeFitsLong 0 && Builtin.Range.rangeFitsLong n && Builtin.Range.rangeFitsLong 1 && Builtin.Range.rangeFitsLong (-1) && Builtin.Range.rangeFitsLong (0 - 1) && Builtin.Range.rangeFitsLong n)=true:=by
  simp only [Builtin.Range.rangeFitsLong,Bool.and_eq_true,Bool.or_eq_true,decide_eq_true_eq]
  lia
 rw [hsz,hsm]
 simp only [Bool.not_true,Bool.false_eq_true,if_false,if_true]
 refine wpAny_bind (wpAny_newObj_type (wpAny_pure ⟨_,rfl,?_⟩))
 have e:(0:Int)+(n - 1) * 1=n - 1:=by lia
 rw [e]
 exact h
theorem Xt {r:Addr} {n:Int} {t u v:Tok} {Q₁:Value→Shared→Prop} (hr:s.heap.get? r=some { cls:=.type "range", data:=.fields #[.int 0 t,.int n u,.int 1 v] }) (h0:0≤n) (h1:n < 2 ^ 20)
 (h:Q₁ (57:) { s with heap:=s.heap.push { cls:=.type "range_iterator", data:=.fields #[rawInt (n - 1),rawInt n,rawInt (-1)] } }) :
 codeAny (17:) A (.call (.builtin "reversed.__new__") ⟨[.type "reversed", .ref r],[]⟩) (wants Q₁ E) s:=by
 have ht:s.TypeIs (.ref r) "range" := ⟨_,hr,rfl⟩
 refine codeAny_of_tree ?_
 show wpAny _ A.in1 (do checkBuiltinCall "reversed.__new__" ⟨[.type "reversed", .ref r],[]⟩;again (.builtin "reversed.__new__" ⟨[.type "reversed", .ref r],[]⟩)) _ _ s
 refine wpAny_bind (wpAny_of_eq (PySem.F.newCall_reversed_1 _) (wpAny_pure ⟨plainId_quiet PySem.F.plain_reversed_new _,codeAny_builtin PySem.F.entry_reversed_new ?_⟩))
 rw [Around.under_plainId PySem.F.plain_reversed_new _]
 unfold Builtin.«reversed.__new__»
 refine wpAny_bind (wpAny_of_eq (newClass_reversed _) ?_)
 try dsimp only
 refine wpAny_bind (wpAny_of_eq (a:=()) (by first | rfl | kernel_rfl) ?_)
 refine wpAny_bind (wpAny_of_eq (a:=()) (by first | rfl | kernel_rfl) ?_)
 try dsimp only
 refine wpAny_bind (wpAny_specialOf ht PySem.F.slot_range_reversed.lookup ?_)
 try dsimp only
 refine wpAny_bind (wpAny_of_eq (PySem.F.slot_range_reversed.bind _) ?_)
 try dsimp only
 first
 | rw [if_neg (show ¬ ((Value.builtin "range.__reversed__" == Value.none)=true) from Bool.false_ne_true)]
 | (show wpAny _ _ (if (Value.builtin "range.__reversed__" == Value.none)=true then _ else _) _ _ _;rw [if_neg (show ¬ ((Value.builtin "range.__reversed__" == Value.none)=true) from Bool.false_ne_true)])
 refine wpAny_bind (wpAny_rule ?_)
 refine wpAny_bind (m:=runValue (.call (.builtin "range.__reversed__") ⟨[.ref r],[]⟩)) (show wpAny _ _ (call (.builtin "range.__reversed__") [.ref r]) _ _ _ from NS hr h0 h1 ?_)
 first
 | exact wpAny_pure h
 | exact wpAny_bind (wpAny_pure (wpAny_pure h))
theorem XR {r:Addr} {n:Int} {t u v:Tok} {Q:Value→Shared→Prop} (hr:s.heap.get? r=some { cls:=.type "range", data:=.fields #[.int 0 t,.int n u,.int 1 v] }) (h0:0≤n) (h1:n < 2 ^ 20)
 (h:Q (57:) { s with heap:=s.heap.push { cls:=.type "range_iterator", data:=.fields #[rawInt (n - 1),rawInt n,rawInt (-1)] } }):wpAny (17:) A (call (.type "reversed") [.ref r]) Q E s:=by
 refine callType_other (U:="range_iterator") (Q₁:=fun obj s₁=>obj=.ref s.heap.objs.size∧s₁={ s with heap:=s.heap.push { cls:=.type "range_iterator", data:=.fields #[rawInt (n - 1),rawInt n,rawInt (-1)] } }) (0:) PySem.F.create_reversed ⟨_,_,PySem.F.mro_reversed⟩ PySem.F.made_reversed Uh (PySem.F.typeCall_reversed_1 _) (Xt hr h0 h1 ⟨rfl,rfl⟩) ?_
 rintro obj s₁ ⟨rfl,rfl⟩
 exact ⟨⟨_,Heap.get?_push_size _ rfl,rfl⟩,h⟩
end
section
variable {X:Cx} {tg:Expr}
def Sq (ta:TA):TI:=fun σ H R=>ta σ H fun vs H1=>∃ (r:Addr) (n:Int),vs=[.ref r]∧H1 r=some (.rng 0 n)∧0≤n∧n < 2 ^ 20∧R (Itd (n - 1) n.toNat) H1
theorem GV {a:Expr} {ta:TA} {p pos:Pos} (hg:Gl X "reversed") (hm:X.mg "reversed" = none) (ha:PA X [a] ta) (hs:starEach [a] X.env=[(false,eval a X.env)]:=by rfl):PI X tg (.Call (.Name "reversed" p) [a] [] pos) (Sq ta):=by
 intro pins s σ H R I h
 refine Call_ (ZU I hg hm boot_reversed (PyProof.Rows.callWith_type1 (50:) hs rfl))
 obtain ⟨r,n,e,hr,h0,h1,q⟩:=q1
 subst e
 cases r1 with
 | cons rr rr2 =>
  cases rr2
  obtain rfl:_=Value.ref r:=rr
  obtain ⟨t,u,v,hro⟩:=(show ObjOk X.prog X.w H1 s1.heap r (.rng 0 n) from I1.hok r _ hr)
  refine XR hro h0 h1 ?_
  have st:IsRangeIter (s1.heap.push { cls:=.type "range_iterator", data:=.fields #[rawInt (n - 1),rawInt n,rawInt (-1)] }) s1.heap.objs.size (n - 1) n (-1):=Heap.get?_push_size _ rfl
  refine wpAny_pyIter_rangeiter st ?_
  have I2:Inv X pins σ H1 { s1 with heap:=s1.heap.push { cls:=.type "range_iterator", data:=.fields #[rawInt (n - 1),rawInt n,rawInt (-1)] },toks:=s1.toks }:=I1.kept fun b o e=>Heap.get?_push_of_some _ e
  refine ⟨s1.heap.objs.size,[s1.heap.objs.size],_,_,H1,rfl,I2,X6 _ (n - 1) n.toNat,?_,fun b hb=>?_,q⟩
  ·have e1:n - 1 + ((0:Nat):Int) * (-1)=n - 1:=by lia
   have e2:((n.toNat:Nat):Int) - ((0:Nat):Int)=n:=by lia
   show IsRangeIter _ _ (n - 1 + ((0:Nat):Int) * (-1)) (((n.toNat:Nat):Int) - ((0:Nat):Int)) (-1)
   rw [e1,e2]
   exact st
  ·have e:b=s1.heap.objs.size:=by simpa using hb
   subst e
   exact I1.fpOk (7:) (I1.hok.fresh (7:))
end
end L2
namespace K25
open PySem L2 TM TT K9 K11
abbrev MM:Int:=2147483647
def Q8:Sp:=fun vs H Q _=>∃ (c k:Int),vs=[.int c,.int k]∧0≤k∧k < 1000000∧∀ x:Int,0≤x→x < MM→Q (.int x) H
def Yj:Sp:=fun vs H Q _=>∃ c:Int,vs=[.int c]∧∀ x:Int,Q (.int x) H
def Ve:Sp:=fun vs H Q _=>∃ c n:Int,vs=[.int c,.int n]∧∀ (x:Int) (H':Hp),Same H H'→Q (.int x) H'
theorem Zx {xs:List V} {k:Int} (hk:k=(xs.length:Int)) (h:0 < xs.length) (n:Int):∃ v ∈ xs,atI xs (n % k)=some v:=by
 subst hk
 have x0:0≤n % (xs.length:Int):=Int.emod_nonneg _ (10:)
 have x1:n % (xs.length:Int) < (xs.length:Int):=Int.emod_lt_of_pos _ (10:)
 obtain ⟨y,hy⟩ : ∃ y:Nat,n % (xs.length:Int)=(y:Int):=⟨_,(Int.toNat_of_nonneg x0).symm⟩
 have hyl:y < xs.length:=by lia
 exact ⟨xs[y],List.getElem_mem hyl,by rw [hy];exact Qv (List.getElem?_eq_getElem hyl)⟩
section
variable {P:Program} {w:World} {K:PySem.W.Frag} {mg:Str→Option Value} {base:Heap} {f:Addr} {fd:FuncData}
theorem Xv:FnScope ["_law_cell", "_law_k", "_law_number"] ["_law_cell", "_law_k"] (defScope WM):=(1:)
theorem GZ (F:Fun K "_law_mixed" "_law_mixed" WM f fd):FnOk P w K mg base CX0 1 f fd ["_law_cell", "_law_k"] Q8:=by
 refine F.ok Xv (8:) (4:)
 ·obtain ⟨c,k,rfl,_⟩:=h
  rfl
 obtain ⟨c,k,rfl,k0,k1,q⟩:=h
 refine ⟨_,(Qe (Qn (i:=2) Xv.nd rfl (12:) (Ql QK (Ql Qs (pv 0) Qd) (Ql Z5 Qd (Ql QK (pv 1) Qd))))
  (Qe (Qn (i:=2) Xv.nd rfl (12:) (Ql Qs (Ql QK (Ql Z5 (pv 2) (pv 2)) (Ql Z5 Qd (pv 1))) Qd))
  (Qh (Qp (Ql Qs (Ql QK (Ql QK (Ql Z5 (pv 2) (pv 2)) (Ql Z5 Qd (pv 1))) Qd) Qd))))),?_⟩
 refine ⟨_,rfl,_,_,rfl,rfl,(by show (0:Int) < 2147483647;decide),_,rfl,_,_,rfl,rfl,_,_,rfl,rfl,.inl (13:),_,_,rfl,rfl,?_⟩
 dsimp only
 have a0:0≤c % 2147483647:=Int.emod_nonneg _ (27:)
 have a1:c % 2147483647 < 2147483647:=Int.emod_lt_of_pos _ (27:)
 generalize hx:c % 2147483647 + 48271 * (k + 1)=x
 refine ⟨_,rfl,_,rfl,_,_,rfl,rfl,.inl ⟨by lia,by lia⟩,_,rfl,_,_,rfl,rfl,.inl (13:),_,_,rfl,rfl,_,_,rfl,rfl,(by show (0:Int) < 2147483647;decide),?_⟩
 dsimp only
 generalize hy:(x * x + 69621 * k) % 2147483647=y
 have b0:0≤y:=by rw [← hy];exact Int.emod_nonneg _ (27:)
 have b1:y < 2147483647:=by rw [← hy];exact Int.emod_lt_of_pos _ (27:)
 refine ⟨_,rfl,_,rfl,_,_,rfl,rfl,.inl ⟨by lia,by lia⟩,_,rfl,_,_,rfl,rfl,.inl (13:),_,_,rfl,rfl,_,_,rfl,rfl,_,_,rfl,rfl,(by show (0:Int) < 2147483647;decide),?_⟩
 exact q _ (Int.emod_nonneg _ (27:)) (Int.emod_lt_of_pos _ (27:))
theorem Od:FnScope ["_law_cell"] ["_law_cell"] (defScope WT):=(1:)
theorem Ln (F:Fun K "_law_great" "_law_great" WT f fd):FnOk P w K mg base CX0 1 f fd ["_law_cell"] Yj:=by
 refine F.ok Od (8:) (4:)
 ·obtain ⟨c,rfl,_⟩:=h
  rfl
 obtain ⟨c,rfl,q⟩:=h
 refine ⟨_,(Qh (Qp (Ql ZR (Ql Qs (pv 0) (Ql QK (Ql Z5 Qd (Ql MO Qd Qd)) Qd)) (Ql MO Qd Qd)))),?_⟩
 exact ⟨_,rfl,_,_,rfl,rfl,⟨by decide,by decide,by decide⟩,_,_,rfl,rfl,.inl (13:),_,_,rfl,rfl,_,_,rfl,rfl,(by show (0:Int) < 2 * 10 ^ 59 + 1;decide),_,_,rfl,rfl,⟨by decide,by decide,by decide⟩,_,_,rfl,rfl,q _⟩
theorem Pi:FnScope ["_law_cell", "_law_number"] ["_law_cell", "_law_number"] (defScope MP):=(1:)
theorem Nw (F:Fun K "_law_mark" "_law_mark" MP f fd) (RG:Fn P w K mg base 1 "_law_great" ["_law_cell"] Yj):FnOk P w K mg base CX0 2 f fd ["_law_cell", "_law_number"] Ve:=by
 refine F.ok Pi (8:) (4:)
 ·obtain ⟨c,n,rfl,_⟩:=h
  rfl
 obtain ⟨c,n,rfl,q⟩:=h
 refine ⟨_,(Qh (Qp (Qj Qm (QF (Qa (Qd) (Qa (Ql ZR (Ql Qs (Ql QG (pv 1) Qd) Qd) Qd) (Qa (Qq RG hr (Qa (pv 0) Qc)) Qc)))) (Ql Qs (Ql QG (pv 1) Qd) Qd) (2:)))),?_⟩
 refine ⟨_,rfl,_,_,rfl,rfl,(13:),_,_,rfl,rfl,(by show (0:Int) < 19;decide),_,_,rfl,rfl,_,rfl,c,rfl,fun x=>⟨(21:),fun l hl=>?_⟩⟩
 refine ⟨_,rfl,_,_,rfl,rfl,(13:),_,_,rfl,rfl,(by show (0:Int) < 3;decide),?_⟩
 obtain ⟨y,hy,hat⟩:=Zx (xs:=[.int 0,.int (n / 2048 % 19 - 9),.int x]) (k:=3) rfl (by show 0 < 3;decide) (n / 64)
 refine ⟨l,_,_,y,rfl,rfl,SqL.of Qb,hat,?_⟩
 have g:=Qf hl (.lst [.int 0,.int (n / 2048 % 19 - 9),.int x])
 simp only [List.mem_cons,List.mem_nil_iff,or_false] at hy
 rcases hy with rfl | rfl | rfl
 ·exact q _ _ g
 ·exact q _ _ g
 ·exact q _ _ g
end
end K25
namespace K25
open PySem L2 TM TT K9 K11
abbrev wts (ks:List KdT):List (Addr × Str × V):=ks.map fun k=>(k.1,k.2.1,V.ref k.2.2.1)
abbrev wkv (ks:List KdT):List (Key × V):=(wts ks).map fun t=>((Sum.inr t.2.1:Key),t.2.2)
section
variable {K:PySem.W.Frag} {H:Hp} {wd:Addr} {ks:List KdT}
theorem wdA (hW:WoodAt K H wd ks):SqL K H wd ((wts ks).map fun t=>V.ref t.1):=by rw [List.map_map];exact hW.1
theorem wdB (hW:WoodAt K H wd ks):∀ t ∈ wts ks,SqT K H t.1 [.str t.2.1,t.2.2]:=fun t ht=>by
 obtain ⟨k,hk,rfl⟩:=List.mem_map.mp ht
 exact (hW.2 k hk).1
theorem wdC (hO:WoodOk ks):((wts ks).map fun t=>t.2.1).Nodup:=by rw [List.map_map];exact hO.nd
theorem wdD (hO:WoodOk ks):(wts ks).length≤1000:=by rw [List.length_map];have:=hO.len;lia
end
theorem OX {H:Hp} {d:Addr} {ks:List KdT} {kind:Str} (h:H d=some (.dK (wkv ks))):DGet H d (.str kind) ((ks.find? fun k=>decide (k.2.1=kind)).map fun k=>V.ref k.2.2.1):=by
 have hdg:=DGet.k (k:=Sum.inr kind) h
 have e:Zp (wkv ks) (Sum.inr kind)=(ks.find? fun k=>decide (k.2.1=kind)).map fun k=>V.ref k.2.2.1:=by
  unfold wkv wts
  rw [List.map_map]
  exact Uw (fun k:KdT=>k.2.1) (fun k=>V.ref k.2.2.1) kind ks
 rw [e] at hdg
 exact hdg
theorem Xh {H:Hp} {d:Addr} {ks:List KdT} {kind:Str} {k:KdT} (h:H d=some (.dK (wkv ks))) (e:ks.find? (fun k=>decide (k.2.1=kind))=some k):DGet H d (.str kind) (some (.ref k.2.2.1)):=by
 have z:=OX (kind:=kind) h
 rw [e] at z
 exact z
section
variable {P:Program} {w:World} {K:PySem.W.Frag} {mg:Str→Option Value} {base:Heap} {f:Addr} {fd:FuncData}
end
end K25
namespace L2
open PySem PySem.Builtin PySem.Builtin.Str
theorem Vq {q:Nat}:∀ (l:List Nat) (n:Nat),(∀ c ∈ l,(reprChar q c).length≤2)→l.foldl (fun n c=>n + (reprChar q c).length) n≤n + 2 * l.length
 | [],n,_=>by simp
 | c :: r,n,h=>by
  have h1:=h c List.mem_cons_self
  have h2:=Vq r (n + (reprChar q c).length) fun d hd=>h d (List.mem_cons_of_mem _ hd)
  simp only [List.foldl_cons,List.length_cons]
  lia
theorem Ob {x:PySem.Str} (h:∀ c ∈ x.cps.toList,∀ q,(reprChar q c).length≤2):(reprText x).length≤2 * x.length + 2:=by
 have h1:=foldl_repr_eq (reprQuote x) x.cps.toList #[reprQuote x] 0
 have h2:=Vq (q:=reprQuote x) x.cps.toList 0 fun c hc=>h c hc _
 show ((x.cps.foldl (fun out c=>out ++ (reprChar (reprQuote x) c).toArray) #[reprQuote x]).push (reprQuote x)).size≤2 * x.cps.size + 2
 rw [Array.size_push,← Array.foldl_toList]
 have e1:(#[reprQuote x]:Array Nat).size=1:=rfl
 have e2:x.cps.toList.length=x.cps.size:=Array.length_toList
 lia
theorem Mp {c:Nat} (h:Unicode.isPrintable c=true) (q:Nat):(reprChar q c).length≤2:=by
 unfold reprChar
 dsimp only
 split
 ·simp
 split
 ·simp
 split
 ·simp
 split
 ·simp
 simp [h]
end L2
namespace K25
open PySem L2 TM TT K9 K11
theorem Ww (cs:List Nat):Txt.join (S []) (cs.map fun c=>S [c])=S cs:=by
 unfold Txt.join
 cases cs with
 | nil=>rfl
 | cons x r =>
  have h:∀ (r:List Nat) (a:List Nat),(r.map fun c=>S [c]).foldl (fun acc p=>acc ++ (S []).cps ++ p.cps) (S a).cps=(S (a ++ r)).cps:=by
   intro r
   induction r with
   | nil=>intro a;simp
   | cons y r ih =>
    intro a
    rw [List.map_cons,List.foldl_cons]
    have e:(S a).cps ++ (S []).cps ++ (S [y]).cps=(S (a ++ [y])).cps:=by simp [S]
    rw [e,ih,List.append_assoc];rfl
  have:=h r [x]
  show (⟨(r.map fun c=>S [c]).foldl (fun acc p=>acc ++ (S []).cps ++ p.cps) (S [x]).cps⟩ : Str)=_
  rw [this];rfl
abbrev Xe:Str:=Str.ofString "abcdefghijklmnopqrstuvwxyz"
def ZG:List Nat:=[97,98,99,100,101,102,103,104,105,106,107,108,109,110,111,112,113,114,115,116,117,118,119,120,121,122]
theorem MK:Xe=S ZG:=by decide +kernel
theorem Og:Xe.cps.toList=ZG:=by rw [MK,Ld]
theorem Vn:Str.ofString "" = S []:=by decide +kernel
def Nm (z:Str):Prop:=PyData.strOk z=true
theorem Nm.of {u:List Nat} (h:∀ c ∈ u,c < 128):Nm (S u):=by
 unfold Nm PyData.strOk
 rw [Array.all_eq_true_iff_forall_mem]
 intro c hc
 have:c ∈ u:=by simpa [S] using hc
 have:=h c this
 simp;lia
theorem LH {i j:Nat} (hi:i < 26) (hj:j < 26) (e:ZG.getD i 0=ZG.getD j 0):i=j:=by
 have hn:ZG.Nodup:=by decide
 have h1:ZG.getD i 0=ZG[i]'hi:=by rw [List.getD_eq_getElem?_getD,List.getElem?_eq_getElem (show i < ZG.length from hi)];rfl
 have h2:ZG.getD j 0=ZG[j]'hj:=by rw [List.getD_eq_getElem?_getD,List.getElem?_eq_getElem (show j < ZG.length from hj)];rfl
 rw [h1,h2] at e
 exact (List.getElem_inj hn).mp e
theorem We {i:Nat} (hi:i < 26):ZG.getD i 0 ∈ ZG∧ZG[i]?=some (ZG.getD i 0):=by
 have hl:i < ZG.length:=hi
 have e:ZG.getD i 0=ZG[i]:=by rw [List.getD_eq_getElem?_getD,List.getElem?_eq_getElem hl];rfl
 rw [e]
 exact ⟨List.getElem_mem hl,List.getElem?_eq_getElem hl⟩
theorem WS:∀ c ∈ ZG,c < 128:=by decide
def code (j:Nat):Nat:=ZG.getD j 0
abbrev Ot (K:PySem.W.Frag):V→List V→Hp→VK→Prop:=fun x vs H Q=>∃ (sep:Str) (l:Addr) (ss:List Str),x=.str sep∧vs=[.ref l]∧SqL K H l (ss.map V.str)∧(ss.map (·.length)).sum + ss.length * sep.length≤16777216∧Q (.str (Txt.join sep ss)) H
abbrev NV (bs:List Nat):List V:=bs.map fun (b:Nat)=>V.int (b:Int)
theorem PD {X:Cx} {K:PySem.W.Frag} {o e:Expr} {es:List Expr} {to:TE} {t:TA} {name:Str} {apos cpos:Pos} {T id:String} {r:V→List V→Hp→VK→Prop} (hK:X.K=K) (pa:PlainAttrs T) (slot:Slot T name id) (hty:typeOf (.builtin id)=pure (.type "method_descriptor")) (hm:MtR X id r) (ho:PE X o to) (ha:PA X (e :: es) t)
 (hbase:attributeBase o name X.env (eval o X.env)=eval o X.env:=by rfl)
 (hfew:((backTo cpos (starEach (e :: es) X.env)).all (fun x=>!x.1) && (backToKw cpos (keywordEach [] X.env)).all (fun x=>x.1.isSome)
  && decide ((e :: es).length + ([]:List Keyword).length + (if ([]:List Keyword).isEmpty then 0 else 1) < 30))=true:=by rfl)
 (hline:(apos.endLine == cpos.line)=true:=by rfl) (hs:starEach (e :: es) X.env=(false,eval e X.env) :: starEach es X.env:=by rfl) (hplain:(backTo cpos (starEach es X.env)).any (·.1)=false:=by rfl) :
 PE X (.Call (.Attribute o name apos) (e :: es) [] cpos) (tBM K T r to t):=by
 subst hK
 exact Zk pa slot hty hm ho ha hbase hfew hline hs hplain
theorem L3 {X:Cx} {K:PySem.W.Frag} {tg l:Expr} {tl:TE} (hK:X.K=K) (hl:PE X l tl):PI X tg l (Oz K tl):=by
 subst hK
 exact QT hl
theorem JR {α:Type} (g:Nat→α) (n:Nat) (h:∀ i j,i < n→j < n→g i=g j→i=j):((List.range n).map g).Nodup:=by
 rw [List.Nodup,List.pairwise_map]
 refine (List.nodup_range (n:=n)).imp_of_mem fun {a b} ha hb hne e=>hne (h a b (List.mem_range.mp ha) (List.mem_range.mp hb) e)
theorem VJ {bs:List Nat} (h:∀ b ∈ bs,b < 26):PyData.strOk (S (bs.map code))=true:=Nm.of fun c hc=>by
 obtain ⟨b,hb,rfl⟩:=List.mem_map.mp hc
 exact WS _ (We (h b hb)).1
theorem UM {cs:List Nat} (h:cs.length≤8):((cs.map fun c=>S [c]).map (·.length)).sum + (cs.map fun c=>S [c]).length * (S []).length≤16777216:=by
 have e:((cs.map fun c=>S [c]).map (·.length))=cs.map fun _=>1:=by
  rw [List.map_map]
  exact List.map_congr_left fun c _=>by simp [VM]
 have e2:(cs.map fun _=>1).sum=cs.length:=by
  clear e h
  induction cs with
  | nil=>rfl
  | cons x r ih=>rw [List.map_cons,List.sum_cons,ih,List.length_cons];lia
 rw [e,e2,VM]
 simp only [List.length_nil,Nat.mul_zero]
 lia
theorem OR {y:Nat} (hy:y < 26):atI Xe.cps.toList ((y:Nat):Int)=some (code y):=by rw [Og];exact Qv (We hy).2
def LN (z:Str):Prop:=∃ bs:List Nat,z=S (bs.map code)∧bs.length≤8∧∀ b ∈ bs,b < 26
theorem Wd:∀ b,b < 26→Unicode.isPrintable (code b)=true:=by decide +kernel
theorem LN.rep {z:Str} (h:LN z):(reprText z).length≤1000:=by
 obtain ⟨bs,rfl,hl,hb⟩:=h
 have h1:=Ob (x:=S (bs.map code)) fun c hc q=>by
  have hc':c ∈ bs.map code:=by simpa [S] using hc
  obtain ⟨b,hbm,rfl⟩:=List.mem_map.mp hc'
  exact Mp (Wd b (hb b hbm)) q
 rw [VM,List.length_map] at h1
 lia
def XS (K:PySem.W.Frag):Sp:=fun vs H Q _=>∃ c:Int,vs=[.int c]∧∀ (l:Addr) (H':Hp) (ns:List Str),Same H H'→H' l=some (.lst (ns.map V.str))→ns.length=8→ns.Nodup→(∀ n ∈ ns,PyData.strOk n=true)→(∀ n ∈ ns,LN n)→Q (.ref l) H'
section
variable {P:Program} {w:World} {K:PySem.W.Frag} {mg:Str→Option Value} {base:Heap} {f:Addr} {fd:FuncData}
theorem Zw:FnScope ["_law_cell", "_law_letters", "_law_base", "_law_width", "_law_spot", "_law_names_here", "_law_k", "_law_moved"] ["_law_cell"] (defScope W9):=(1:)
theorem M6 (F:Fun K "_law_names" "_law_names" W9 f fd) (G:Gm mg) (RM:Fn P w K mg base 1 "_law_mixed" ["_law_cell", "_law_k"] Q8):FnOk P w K mg base CX0 2 f fd ["_law_cell"] (XS K):=by
 refine F.ok Zw (8:) (4:)
 ·obtain ⟨c,rfl,_⟩:=h
  rfl
 obtain ⟨c,rfl,q⟩:=h
 refine ⟨_,(Qe (Qn (i:=1) Zw.nd rfl (Or.inr rfl) Q5)
  (Qe (Qn (i:=2) Zw.nd rfl (Or.inr rfl) (QP (CompG.many (xs:=["_law_j"]) (caps:=["_law_cell"]) (cap:=[0]) (cs:=[_]) rfl rfl (0:) (0:) (0:) (0:) (0:) (0:) rfl rfl rfl) rfl (QX rfl G.rng (Qa (Qd) Qc)) (Zo (CompG.many (xs:=["_law_j"]) (caps:=["_law_cell"]) (cap:=[0]) (cs:=[_]) rfl rfl (0:) (0:) (0:) (0:) (0:) (0:) rfl rfl rfl)) (fun _ _ _ _=>Q2) (fun _ _ _ _=>Ql (r:=rI (fun _ j=>0 < j) fun i j=>.int (i % j)) Qs (Qq RM hr (Qa (pv 1) (Qa (pv 0) Qc))) Qd)))
  (Qe (QL (Qw Zc (Ql Qs (Ql QG (pv 0) Qd) Qd) Qd (QA _)) (Qh (Qp (QP (CompG.many (xs:=["_law_k"]) (caps:=["_law_base", "_law_letters"]) (cap:=[2,1]) (cs:=[_,_]) rfl rfl (0:) (0:) (0:) (0:) (0:) (0:) rfl rfl rfl) rfl (QX rfl G.rng (Qa (Qd) Qc)) (Zo (CompG.many (xs:=["_law_k"]) (caps:=["_law_base", "_law_letters"]) (cap:=[2,1]) (cs:=[_,_]) rfl rfl (0:) (0:) (0:) (0:) (0:) (0:) rfl rfl rfl)) (fun _ _ _ _=>Q2)
   (fun _ _ _ _=>PD (K:=K) (r:=Ot K) rfl PySem.F.plainAttrs_str PySem.F.slot_str_join PySem.F.type_str_join VR Q5 (Qa (QP (CompG.many (xs:=["_law_j"]) (caps:=["_law_letters"]) (cap:=[2]) (cs:=[_]) rfl rfl (0:) (0:) (0:) (0:) (0:) (0:) rfl rfl rfl) rfl (L3 (K:=K) rfl (YN (r:=P8 K) Uy (pv 1) XB (YU (Ql (r:=rI0 fun i j=>.int (i + j)) QK (pv 0) Qd)))) (Zo (CompG.many (xs:=["_law_j"]) (caps:=["_law_letters"]) (cap:=[2]) (cs:=[_]) rfl rfl (0:) (0:) (0:) (0:) (0:) (0:) rfl rfl rfl)) (fun _ _ _ _=>Q2) (fun _ _ _ _=>Qj MN (pv 1) (pv 0) (2:))) Qc))))) Qu)
  (Qe (Qn (i:=3) Zw.nd rfl (12:) (Ql QK Qd (Ql Qs (pv 0) Qd)))
  (Qe (Qn (i:=4) Zw.nd rfl (12:) (Ql Qs (Ql QG (pv 0) Qd) (pv 3)))
  (Qe (Qn (i:=5) Zw.nd rfl (12:) (QF Qc))
  (Qe (QU PassesOwn.never rfl (QX rfl G.rng (Qa (Qd) Qc)) (QC (i:=6) Zw.nd rfl (12:)) (Qe (Qn (i:=7) Zw.nd rfl (12:) (YN Uy (pv 2) XB (YU (pv 3))))
  (Qe (Y6 (Ql Qs (Ql QK (Qj Qm (pv 7) (pv 4) (2:)) (pv 6)) Qd) (Y1 (pv 7) (pv 4) ZL))
  (Qh (QI (Zk PySem.F.plainAttrs_list PySem.F.slot_list_append PySem.F.type_list_append QY (pv 5) (Qa (Zk (r:=Ot K) PySem.F.plainAttrs_str PySem.F.slot_str_join PySem.F.type_str_join VR Q5 (Qa (QP (CompG.many (xs:=["_law_j"]) (caps:=["_law_letters"]) (cap:=[1]) (cs:=[_]) rfl rfl (0:) (0:) (0:) (0:) (0:) (0:) rfl rfl rfl) rfl (QT (pv 7)) (Zo (CompG.many (xs:=["_law_j"]) (caps:=["_law_letters"]) (cap:=[1]) (cs:=[_]) rfl rfl (0:) (0:) (0:) (0:) (0:) (0:) rfl rfl rfl)) (fun _ _ _ _=>Q2) (fun _ _ _ _=>Qj MN (pv 1) (pv 0) (2:))) Qc)) Qc)))))))
  (Qh (Qp (pv 5)))))))))),?_⟩
 have eL:Str.ofString "abcdefghijklmnopqrstuvwxyz" = Xe:=rfl
 refine ⟨8,rfl,by decide,by decide,fun lb hlb=>?_⟩
 refine ZI (lo:=0) (n:=8) (cs:=[some (.int c)]) (tt:=fun _ H Q=>Q true H) (fun j ys H'=>∃ bs:List Nat,ys=NV bs∧bs.length=j∧(∀ b ∈ bs,b < 26)∧H' lb=some (.lst ys)∧Same H H')
  ⟨[],rfl,rfl,fun b hb=>(nomatch hb),Qb,Qf hlb _⟩ ?_ ?_
 ·rintro j ys H' hj ⟨bs,rfl,hbl,hb26,hy,g⟩
  refine QZ ⟨_,rfl,_,rfl,c,0 + (j:Int),rfl,by lia,by lia,fun x x0 x1=>⟨_,_,rfl,rfl,(by show (0:Int) < 26;decide),?_⟩⟩
  have y0:0≤x % 26:=Int.emod_nonneg _ (27:)
  have y1:x % 26 < 26:=Int.emod_lt_of_pos _ (27:)
  refine QB hj hy (29:) ⟨bs ++ [(x % 26).toNat],?_,by rw [List.length_append,List.length_singleton,hbl],fun b hb=>?_,Qb,fun z u e=>?_⟩
  ·unfold NV
   rw [List.map_append]
   show _ ++ [V.int (x % 26)]=_ ++ [V.int (((x % 26).toNat:Nat):Int)]
   rw [Int.toNat_of_nonneg y0]
  ·rcases List.mem_append.mp hb with hb | hb
   ·exact hb26 b hb
   ·have:b=(x % 26).toNat:=by simpa using hb
    rw [this];lia
  ·rw [Qg (Qi e hlb)];exact g _ _ e
 rintro ys H1 ⟨bs,rfl,hbl,hb26,hlb1,g1⟩
 have word:∀ (us:List Nat) (l2 lu:Addr) (Hx:Hp) (R:Hp→Prop),Hx l2=none→Hx lu=some (.lst (NV us))→us.length≤8→(∀ b ∈ us,b < 26) →
  (∀ H',Same Hx H'→H' l2=some (.lst (((us.map code).map fun c=>S [c]).map V.str))→R H')→Ja (Itl K lu) 1 [some (.str Xe)] (Zd 0) (fun _ H Q=>Q true H) (tOp P3 (Zi 1) (Zi 0)) Hx l2 R:=by
  intro us l2 lu Hx R h2 hu hul hu26 hR
  have hne:lu≠l2:=fun z=>by rw [z,h2] at hu;cases hu
  refine Ys (K:=K) (xs:=NV us) (cs:=[some (.str Xe)]) (fun m ys H'=>ys=(((us.take m).map code).map fun c=>S [c]).map V.str∧H' l2=some (.lst ys)∧Same Hx H')
   ⟨rfl,Qb,Qf h2 _⟩ ?_ ?_ ?_
  ·rintro m ys H' _ ⟨_,_,g⟩
   exact SqL.of (g _ _ hu)
  ·rintro m x ys H' hm hx ⟨rfl,hy,g⟩
   have hml:m < us.length:=by simpa using hm
   obtain rfl:x=.int ((us[m]:Nat):Int):=by
    rw [List.getElem?_map,List.getElem?_eq_getElem hml] at hx
    exact (Option.some.inj hx).symm
   have hlt:=hu26 _ (List.getElem_mem hml)
   refine QZ ⟨_,rfl,_,rfl,Xe,_,_,rfl,rfl,(by rw [MK,VM];exact Q7 (27:)),OR hlt,?_⟩
   refine QB hm hy (by simp only [List.length_map,List.length_take];lia) ⟨?_,Qb,fun z u e=>?_⟩
   ·rw [List.take_add_one,List.getElem?_eq_getElem hml]
    simp only [Option.toList_some,List.map_append,List.map_cons,List.map_nil]
    rfl
   ·rw [Qg (Qi e h2)];exact g _ _ e
  ·rintro ys H' ⟨rfl,hy,g⟩
   rw [List.length_map,List.take_length] at hy
   exact hR H' g hy
 refine ⟨_,rfl,_,_,rfl,rfl,(13:),_,_,rfl,rfl,(by show (0:Int) < 4;decide),rfl,_,rfl,Zt (fun _=>?_) (fun _=>?_)⟩
 ·refine ⟨8,rfl,by decide,by decide,fun ln hln=>?_⟩
  refine ZI (lo:=0) (n:=8) (cs:=[some (.ref lb),some (.str Xe)]) (tt:=fun _ H Q=>Q true H) (fun j ys H'=>ys=((List.range j).map fun k=>S ((bs.take (k + 1)).map code)).map V.str∧H' ln=some (.lst ys)∧Same H1 H')
   ⟨rfl,Qb,Qf hln _⟩ ?_ ?_
  ·rintro j ys H' hj ⟨rfl,hy,g⟩
   refine QZ ⟨rfl,_,rfl,_,rfl,_,_,rfl,rfl,_,rfl,lb,_,rfl,SqL.of (g _ _ hlb1),fun ps hps=>⟨ps,rfl,⟨_,SqL.of Qb⟩,fun l2 hl2=>?_⟩⟩
   have ecut:cutV (NV bs) none (some (0 + (j:Int)+1))=NV (bs.take (j + 1)):=by
    rw [show (0:Int)+(j:Int)+1=((j + 1:Nat):Int) by lia,MJ];unfold NV;rw [List.map_take]
   have kp:=Qf hps (.lst (cutV (NV bs) none (some (0 + (j:Int)+1))))
   refine word (bs.take (j + 1)) l2 ps _ _ hl2 (by rw [← ecut];exact Qb) (by rw [List.length_take];lia) (fun b hb=>hb26 b (List.mem_of_mem_take hb)) fun H3 g3 h3=>?_
   have k3:=kp.trans g3
   refine ⟨S [],l2,_,by rw [← Vn],rfl,SqL.of h3,UM (by rw [List.length_map,List.length_take];lia),?_⟩
   rw [Ww]
   refine QB hj (k3 _ _ hy) (by simp only [List.length_map,List.length_range];lia) ⟨?_,Qb,fun z u e=>?_⟩
   ·rw [List.range_succ,List.map_append,List.map_append];rfl
   ·rw [Qg (Qi e hln)];exact k3 _ _ (g _ _ e)
  ·rintro ys H' ⟨rfl,hy,g⟩
   refine q ln H' _ (g1.trans g) hy (24:) (JR _ 8 fun i j hi hj e=>?_) (fun x hx=>?_) fun x hx=>?_
   ·have:=congrArg List.length (OD e)
    simp only [List.length_map,List.length_take] at this
    lia
   ·obtain ⟨k,_,rfl⟩:=List.mem_map.mp hx
    exact VJ fun b hb=>hb26 b (List.mem_of_mem_take hb)
   ·obtain ⟨k,_,rfl⟩:=List.mem_map.mp hx
    exact ⟨_,rfl,by rw [List.length_take];lia,fun b hb=>hb26 b (List.mem_of_mem_take hb)⟩
 have w0:0≤c % 8:=Int.emod_nonneg _ (27:)
 have w1:c % 8 < 8:=Int.emod_lt_of_pos _ (27:)
 refine ⟨_,rfl,_,_,rfl,rfl,(by show (0:Int) < 8;decide),_,_,rfl,rfl,?_⟩
 dsimp only
 obtain ⟨wi,hwi⟩ : ∃ wi:Nat,1 + c % 8=(wi:Int):=⟨(1 + c % 8).toNat,by lia⟩
 rw [hwi]
 have hwi0:0 < wi:=by lia
 have hwi8:wi≤8:=by lia
 refine ⟨_,rfl,_,_,rfl,rfl,(13:),_,rfl,_,_,rfl,rfl,(by show (0:Int) < (wi:Int);lia),?_⟩
 dsimp only
 have s0:0≤c / 8 % (wi:Int):=Int.emod_nonneg _ (10:)
 have s1:c / 8 % (wi:Int) < (wi:Int):=Int.emod_lt_of_pos _ (10:)
 obtain ⟨sp,hsp⟩ : ∃ sp:Nat,c / 8 % (wi:Int)=(sp:Int):=⟨(c / 8 % (wi:Int)).toNat,by lia⟩
 rw [hsp]
 have hspw:sp < wi:=by lia
 obtain ⟨bw,hbw⟩ : ∃ bw,bw=bs.take wi:=(54:)
 have hbwl:bw.length=wi:=by rw [hbw,List.length_take];lia
 have hbw26:∀ b ∈ bw,b < 26:=fun b hb=>hb26 b (List.mem_of_mem_take (by rw [← hbw];exact hb))
 have hspl:sp < bw.length:=by lia
 refine ⟨(15:),fun ln hln=>?_⟩
 refine ⟨8,rfl,by decide,by decide,?_⟩
 refine ZJ (lo:=0) (n:=8) (fun j σ H'=>∃ c6 c7:Option V,σ=[some (.int c),some (.str Xe),some (.ref lb),some (.int (wi:Int)),some (.int (sp:Int)),some (.ref ln),c6,c7]∧Same H1 H'∧H' ln=some (.lst (((List.range j).map fun k=>S ((bw.set sp ((bw[sp]+k) % 26)).map code)).map V.str)))
  ⟨none,none,rfl,Qf hln _,Qb⟩ ?_ ?_
 ·rintro j σ H' hj ⟨c6,c7,rfl,g,hy⟩
  refine ⟨_,rfl,_,rfl,_,rfl,lb,_,rfl,SqL.of (g _ _ hlb1),fun lm hlm=>?_⟩
  have ecut:cutV (NV bs) none (some (wi:Int))=NV bw:=by rw [MJ,hbw];unfold NV;rw [List.map_take]
  have km:=Qf hlm (.lst (cutV (NV bs) none (some (wi:Int))))
  have hlm2:upd H' lm (.lst (cutV (NV bs) none (some (wi:Int)))) lm=some (.lst (NV bw)):=by rw [← ecut];exact Qb
  have hlnm:ln≠lm:=fun z=>by rw [← z,hy] at hlm;cases hlm
  generalize upd H' lm (.lst (cutV (NV bs) none (some (wi:Int))))=H2 at km hlm2
  have hat:atI (NV bw) (sp:Int)=some (.int ((bw[sp]:Nat):Int)):=Qv (by rw [List.getElem?_map,List.getElem?_eq_getElem hspl];rfl)
  refine ⟨_,rfl,_,rfl,lm,_,_,_,rfl,rfl,SqL.of hlm2,hat,_,rfl,_,_,rfl,rfl,_,_,rfl,rfl,(by show (0:Int) < 26;decide),_,rfl,_,rfl,lm,NV bw,(sp:Int),sp,rfl,rfl,hlm2,YV (by rw [List.length_map];exact hspl),?_⟩
  have hset:(NV bw).set sp (.int ((((bw[sp]:Nat):Int)+(0 + (j:Int))) % 26))=NV (bw.set sp ((bw[sp]+j) % 26)):=by
   unfold NV
   rw [List.map_set]
   congr 2
   lia
  rw [hset]
  have hln3:upd H2 lm (.lst (NV (bw.set sp ((bw[sp]+j) % 26)))) ln=some (.lst (((List.range j).map fun k=>S ((bw.set sp ((bw[sp]+k) % 26)).map code)).map V.str)):=by rw [Qg hlnm];exact km _ _ hy
  refine ⟨_,rfl,.inl ⟨rfl,_,SqL.of hln3⟩,rfl,_,rfl,lm,rfl,⟨_,SqL.of Qb⟩,fun l2 hl2=>?_⟩
  have hml:∀ b ∈ bw.set sp ((bw[sp]+j) % 26),b < 26:=fun b hb=>by
   rcases List.mem_or_eq_of_mem_set hb with hb | hb
   ·exact hbw26 b hb
   ·rw [hb];exact Nat.mod_lt _ (27:)
  refine word _ l2 lm _ _ hl2 Qb (by rw [List.length_set];lia) hml fun H4 g4 h4=>?_
  refine ⟨S [],l2,_,by rw [← Vn],rfl,SqL.of h4,UM (by rw [List.length_map,List.length_set];lia),?_⟩
  rw [Ww]
  refine ⟨ln,_,_,rfl,rfl,g4 _ _ hln3,by simp only [List.length_map,List.length_range,QO];lia,_,_,rfl,fun z u e=>?_,?_⟩
  ·rw [Qg (Qi e hln)]
   refine g4 _ _ ?_
   have hz:z≠lm:=fun y=>by rw [y] at e;rw [g _ _ e] at hlm;cases hlm
   rw [Qg hz]
   exact km _ _ (g _ _ e)
  ·rw [Qb,List.range_succ,List.map_append,List.map_append];rfl
 ·rintro σ H' ⟨c6,c7,rfl,g,hy⟩
  refine ⟨_,rfl,q ln H' _ (g1.trans g) hy (24:) (JR _ 8 fun i j hi hj e=>?_) (fun x hx=>?_) fun x hx=>?_⟩
  ·have e2:=congrArg (fun l=>l[sp]?) (OD e)
   simp only [List.getElem?_map,List.getElem?_set_self hspl,Option.map_some] at e2
   have e3:=LH (Nat.mod_lt _ (27:)) (Nat.mod_lt _ (27:)) (Option.some.inj e2)
   lia
  ·obtain ⟨k,_,rfl⟩:=List.mem_map.mp hx
   refine VJ fun b hb=>?_
   rcases List.mem_or_eq_of_mem_set hb with hb | hb
   ·exact hbw26 b hb
   ·rw [hb];exact Nat.mod_lt _ (27:)
  ·obtain ⟨k,_,rfl⟩:=List.mem_map.mp hx
   refine ⟨_,rfl,by rw [List.length_set];lia,fun b hb=>?_⟩
   rcases List.mem_or_eq_of_mem_set hb with hb | hb
   ·exact hbw26 b hb
   ·rw [hb];exact Nat.mod_lt _ (27:)
end
end K25
namespace K25
open PySem L2 TM TT K9 K11
abbrev PI' (p:List Int):List V:=p.map V.int
abbrev Rf (ts:List (Addr × List Int)):List V:=ts.map fun t=>V.ref t.1
def TsAt (K:PySem.W.Frag) (H:Hp) (ts:List (Addr × List Int)):Prop:=∀ t ∈ ts,SqT K H t.1 (PI' t.2)
theorem TsAt.mono {K:PySem.W.Frag} {H H':Hp} {ts:List (Addr × List Int)} (h:TsAt K H ts) (k:∀ a xs,SqT K H a xs→SqT K H' a xs):TsAt K H' ts:=fun t ht=>k _ _ (h t ht)
theorem TsAt.app {K:PySem.W.Frag} {H:Hp} {ts us:List (Addr × List Int)} (h:TsAt K H ts) (k:TsAt K H us):TsAt K H (ts ++ us):=fun t ht=>by
 rcases List.mem_append.mp ht with z | z
 ·exact h t z
 ·exact k t z
def datP (ps:List (List Int)):PyData:=.list (ps.map fun p=>.tuple (p.map .int))
theorem Ro {K:PySem.W.Frag} {H:Hp}:∀ {ts:List (Addr × List Int)},TsAt K H ts→RdAll K H (Rf ts) ((ts.map (·.2)).map fun p=>.tuple (p.map .int))
 | [],_=>.nil
 | t :: r,h=>.cons (.tup (h t List.mem_cons_self) (XQ _)) (Ro fun u hu=>h u (38:))
theorem OB:∀ ps:List (List Int),(datP ps).canLay0=true
 | []=>by simp [datP,PyData.canLay0,PyData.canLayAll0]
 | p :: r=>by
  have:=OB r
  simp only [datP,PyData.canLay0] at this
  simp only [datP,PyData.canLay0,List.map_cons,PyData.canLayAll0,UK,this,Bool.and_self]
theorem MA {mk ks:List Str} {i j:Nat} {x y:Str} (h:mk[i]?=some x) (k:ks[j]?=some y):Uj mk ks ((i:Int),(j:Int))=decide (x=y):=by
 have hi:=(List.getElem?_eq_some_iff.mp h).1
 have hj:=(List.getElem?_eq_some_iff.mp k).1
 unfold Uj
 have e1:(0:Int)≤(i:Int):=by lia
 have e2:(i:Int) < (mk.length:Int):=by lia
 have e3:(0:Int)≤(j:Int):=by lia
 have e4:(j:Int) < (ks.length:Int):=by lia
 simp only [e1,e2,e3,e4,decide_true,Bool.true_and,Int.toNat_natCast,h,k]
 by_cases e:x=y <;> simp [e]
theorem Lp {d:Nat}:∀ {ts:List Tm},(∀ t ∈ ts,TM.lv t≤d)→lvs ts≤d
 | [],_=>by simp [lvs]
 | t :: r,h=>by
  have h1:=h t List.mem_cons_self
  have h2:=Lp fun u hu=>h u (38:)
  simp only [lvs];lia
theorem Wf {c:Int × Int}:∀ {ts:List Tm},c ∈ Zh ts→∃ t ∈ ts,c ∈ cls t
 | [],h=>by simp [Zh] at h
 | t :: r,h=>by
  simp only [Zh] at h
  rcases List.mem_append.mp h with h | h
  ·exact ⟨t,List.mem_cons_self,h⟩
  ·obtain ⟨u,hu,hc⟩:=Wf h
   exact ⟨u,List.mem_cons_of_mem _ hu,hc⟩
theorem L9 {s:Nat}:∀ {ts:List Tm},(∀ t ∈ ts,TM.sz t≤s)→szs ts≤ts.length * s
 | [],_=>by simp [szs]
 | t :: r,h=>by
  have h1:=h t List.mem_cons_self
  have h2:=L9 fun u hu=>h u (38:)
  simp only [szs,List.length_cons,Nat.add_mul,Nat.one_mul];lia
theorem MD (ps:List (List Int)):PyData.eqv (datP ps) (.list [])=ps.isEmpty:=by
 cases ps <;> simp [datP,PyData.eqv,PyData.eqvAll]
theorem Rn {X:Cx} {r1 r2:R2} (h1:IxR X r1) (h2:IxR X r2):IxR X (fun x y H Q=>r1 x y H Q∨r2 x y H Q):=by
 intro value slice pins s σ H x y v u Q I rx ry h hs
 rcases h with h | h
 ·exact h1 value slice pins s σ H x y v u Q I rx ry h hs
 ·exact h2 value slice pins s σ H x y v u Q I rx ry h hs
abbrev Oo (K:PySem.W.Frag):R2:=fun x y H Q=>Xx K x y H Q∨GI K x y H Q
structure TF (own kinds:List Str) (d:Nat) (t:Tm):Prop where
 lv:TM.lv t≤d
 sz:TM.sz t≤3 ^ d
 mok:MOk (2 * d) t
 fit:YI own kinds t=true
theorem NE {own kinds:List Str} {m b:Int} {d:Nat} (h:Uj own kinds (m,b)=true):TF own kinds (d + 1) (ZB m b):=by
 refine ⟨by simp [ZB,TM.lv,lvs],?_,(Nz m b 0 []).mono (10:),?_⟩
 ·simp only [ZB,TM.sz,szs]
  have:=Nat.pow_pos (n:=d + 1) (show 0 < 3 by decide)
  lia
 ·unfold YI;simp [ZB,cls,lcl,Zh,h]
theorem OK {own kinds:List Str} {d:Nat} {nm:Str} {k:Bool} {ad:Int} {ts:List Tm} (hn:PyData.strOk nm=true) (hl:ts.length≤2) (h:∀ t ∈ ts,TF own kinds d t):TF own kinds (d + 1) (.node (.put nm k ad) 0 ts):=by
 refine ⟨?_,?_,(Ph hn fun t ht=>(h t ht).mok).mono (10:),?_⟩
 ·simp only [TM.lv]
  have:=Lp fun t ht=>(h t ht).lv
  lia
 ·simp only [TM.sz]
  have h1:=L9 fun t ht=>(h t ht).sz
  have h2:ts.length * 3 ^ d≤2 * 3 ^ d:=Nat.mul_le_mul_right _ hl
  have h3:0 < 3 ^ d:=Nat.pow_pos (27:)
  rw [Nat.pow_succ]
  lia
 ·unfold YI
  rw [List.all_eq_true]
  intro c hc
  simp only [cls,lcl,List.nil_append] at hc
  obtain ⟨t,ht,hc⟩:=Wf hc
  have:=(h t ht).fit
  unfold YI at this
  exact List.all_eq_true.mp this c hc
def Xn (K:PySem.W.Frag):Sp:=fun vs H Q _=>∃ (pb lo:Addr) (kinds own:List Str),vs=[.ref pb,.ref lo]∧(SqT K H pb (kinds.map V.str)∨SqL K H pb (kinds.map V.str))∧SqL K H lo (own.map V.str)∧kinds.length≤4∧own.length≤4 ∧
 ∀ (l:Addr) (H':Hp) (ts:List (Addr × List Int)),Same H H'→H' l=some (.lst (Rf ts))→TsAt K H' ts→(∀ t ∈ ts,∃ m b,t.2=[m,b]∧Uj own kinds (m,b)=true)→ts.length≤16→Q (.ref l) H'
def Yy (K:PySem.W.Frag) (n:Nat):Sp:=fun vs H Q _=>∃ (c k:Int) (d:Nat) (lc ln:Addr) (keep:Bool) (ts:List (Addr × List Int)) (ns own kinds:List Str),d + 1=n∧d≤2∧vs=[.int c,.int k,.int (d:Int),.ref lc,.ref ln,.bl keep]∧0≤k∧k * 10 ^ d≤10000∧SqL K H lc (Rf ts)∧TsAt K H ts∧(∀ t ∈ ts,∃ m b,t.2=[m,b]∧Uj own kinds (m,b)=true)∧ts.length≤16∧SqL K H ln (ns.map V.str)∧ns.length=8∧(∀ x ∈ ns,PyData.strOk x=true) ∧
 ∀ (v:V) (H':Hp) (t:Tm),Same H H'→TmV K H' v t→TF own kinds n t→Q v H'
section
variable {P:Program} {w:World} {K:PySem.W.Frag} {mg:Str→Option Value} {base:Heap} {f:Addr} {fd:FuncData}
theorem XO:FnScope ["_law_branches", "_law_owners", "_law_calls_here", "_law_branch"] ["_law_branches", "_law_owners"] (defScope WI):=(1:)
theorem MG (F:Fun K "_law_calls" "_law_calls" WI f fd) (G:Gm mg):FnOk P w K mg base CX0 1 f fd ["_law_branches", "_law_owners"] (Xn K):=by
 refine F.ok XO (8:) (4:)
 ·obtain ⟨pb,lo,kinds,own,rfl,_⟩:=h
  rfl
 obtain ⟨pb,lo,kinds,own,rfl,hpb,hlo,hk4,ho4,q⟩:=h
 refine ⟨_,(Qe (Qn (i:=2) XO.nd rfl (12:) (QF Qc))
  (Qe (QU PassesOwn.never rfl (QX rfl G.rng (Qa (Qr Qo rfl G.len PySem.boot_len (Qa (pv 0) Qc)) Qc)) (QC (i:=3) XO.nd rfl (Or.inr rfl)) (Qh
   (QI (Zk PySem.F.plainAttrs_list PySem.F.slot_list_extend PySem.F.type_list_extend JC (pv 2) (Qa (QP (CompG.many (xs:=["_law_mode"]) (caps:=["_law_branch", "_law_branches", "_law_owners"]) (cap:=[3,0,1]) (cs:=[_,_,_]) rfl rfl (0:) (0:) (0:) (0:) (0:) (0:) rfl rfl rfl) rfl (QX rfl G.rng (Qa (Qr Qo rfl G.len PySem.boot_len (56:)) Qc)) (Zo (CompG.many (xs:=["_law_mode"]) (caps:=["_law_branch", "_law_branches", "_law_owners"]) (cap:=[3,0,1]) (cs:=[_,_,_]) rfl rfl (0:) (0:) (0:) (0:) (0:) (0:) rfl rfl rfl)) (fun _ _ _ _=>WQ (Qw (r:=rEq) Zc (Qj (r:=Xx K) Qm (pv 3) (pv 0) (2:)) (Qj (r:=Oo K) (Rn Qm Qk) (pv 2) (pv 1) (2:)) (QA _))) (fun _ _ _ _=>(Qz (Qa (pv 0) (56:))))) Qc)))))
  (Qh (Qp (pv 2))))),?_⟩
 refine ⟨(15:),fun l hl=>?_⟩
 have g0:=Qf hl (.lst [])
 have ekl:(kinds.map V.str).length=kinds.length:=List.length_map ..
 have eol:(own.map V.str).length=own.length:=List.length_map ..
 have hpb':∀ H',Same H H'→(SqL K H' pb (kinds.map V.str)∨SqT K H' pb (kinds.map V.str)):=fun H' g=>hpb.elim (fun h=>.inr (g.seqT h)) fun h=>.inl (g.seq h)
 refine ⟨_,rfl,pb,_,rfl,hpb' _ g0,_,rfl,by rw [ekl];lia,by rw [ekl];lia,?_⟩
 have en:(((kinds.map V.str).length:Nat):Int).toNat=kinds.length:=by rw [ekl];lia
 have en2:(((own.map V.str).length:Nat):Int).toNat=own.length:=by rw [eol];lia
 rw [en]
 refine ZJ (lo:=0) (n:=kinds.length) (fun i σ H'=>∃ (c3:Option V) (ts:List (Addr × List Int)),σ=[some (.ref pb),some (.ref lo),some (.ref l),c3]∧Same H H'∧H' l=some (.lst (Rf ts))∧TsAt K H' ts∧(∀ t ∈ ts,∃ m b,t.2=[m,b]∧Uj own kinds (m,b)=true)∧ts.length≤4 * i)
  ⟨none,[],rfl,g0,Qb,fun t ht=>(nomatch ht),fun t ht=>(nomatch ht),Nat.zero_le _⟩ ?_ ?_
 ·rintro i σ H1 hi ⟨c3,ts,rfl,g1,hl1,hts,hfit,htl⟩
  refine ⟨_,rfl,.inl ⟨rfl,_,SqL.of hl1⟩,_,rfl,lo,_,rfl,.inl (g1.seq hlo),_,rfl,by rw [eol];lia,by rw [eol];lia,fun acc hacc=>?_⟩
  rw [en2]
  have hla:l≠acc:=fun z=>by rw [← z,hl1] at hacc;cases hacc
  refine ZI (lo:=0) (n:=own.length) (cs:=[some (.int (0 + (i:Int))),some (.ref pb),some (.ref lo)]) (te:=MW (Q0 (Zi 0) (Q0 (Zi 1) Jf))) (fun j ys H'=>∃ us:List (Addr × List Int),ys=Rf us∧H' acc=some (.lst ys)∧Same H1 H'∧TsAt K H' us∧(∀ t ∈ us,∃ m b,t.2=[m,b]∧Uj own kinds (m,b)=true)∧us.length≤j)
   ⟨[],rfl,Qb,Qf hacc _,fun t ht=>(nomatch ht),fun t ht=>(nomatch ht),Nat.le_refl _⟩ ?_ ?_
  ·rintro j ys H2 hj ⟨us,rfl,hy,g2,hus,huf,hul⟩
   have ej:(0:Int)+(j:Int)=(j:Int):=by lia
   have ei:(0:Int)+(i:Int)=(i:Int):=by lia
   rw [ej,ei]
   have hat1:atI (own.map V.str) (j:Int)=some (.str own[j]):=Qv (by rw [List.getElem?_map,List.getElem?_eq_getElem hj];rfl)
   have hat2:atI (kinds.map V.str) (i:Int)=some (.str kinds[i]):=Qv (by rw [List.getElem?_map,List.getElem?_eq_getElem hi];rfl)
   have hix:Oo K (.ref pb) (.int (i:Int)) H2=Oo K (.ref pb) (.int (i:Int)) H2:=rfl
   have gg:=g1.trans g2
   refine ⟨_,rfl,_,rfl,lo,_,_,_,rfl,rfl,gg.seq hlo,hat1,_,rfl,_,rfl,?_⟩
   have key:∀ R:VK,R (.str kinds[i]) H2→Oo K (.ref pb) (.int (i:Int)) H2 R:=fun R hR=>by
    rcases hpb' _ gg with h | h
    ·exact .inl ⟨pb,_,_,_,rfl,rfl,h,hat2,hR⟩
    ·exact .inr ⟨pb,_,_,_,rfl,rfl,h,hat2,hR⟩
   refine key _ ⟨rfl,_,rfl,?_⟩
   by_cases he:own[j]=kinds[i]
   ·refine LF (by rw [he]) ⟨_,rfl,_,rfl,(44:),fun p hp=>?_⟩
    have kp:=Qf hp (.tup [.int (j:Int),.int (i:Int)])
    refine QB hj (kp _ _ hy) (29:) ⟨us ++ [(p,[(j:Int),(i:Int)])],by unfold Rf;rw [List.map_append];rfl,Qb,fun z u e=>?_,?_,fun t ht=>?_,by rw [List.length_append,List.length_singleton];lia⟩
    ·rw [Qg (Qi e hacc)];exact kp _ _ (g2 _ _ e)
    ·refine TsAt.app (hus.mono fun _ _ h=>(kp.seqT h).put (kp _ _ hy)) fun t ht=>?_
     have:t=(p,[(j:Int),(i:Int)]):=by simpa using ht
     rw [this]
     exact SqT.put (SqT.of Qb) (kp _ _ hy)
    ·rcases List.mem_append.mp ht with ht | ht
     ·exact huf t ht
     ·have:t=(p,[(j:Int),(i:Int)]):=by simpa using ht
      rw [this]
      exact ⟨_,_,rfl,by rw [MA (List.getElem?_eq_getElem hj) (List.getElem?_eq_getElem hi)];exact decide_eq_true he⟩
   ·exact L5 (fun z=>he (by injection z)) (Yi hj ⟨us,rfl,hy,g2,hus,huf,by lia⟩)
  ·rintro ys H2 ⟨us,rfl,hy,g2,hus,huf,hul⟩
   have hl2:=g2 _ _ hl1
   refine ⟨l,acc,_,_,rfl,rfl,hl2,hy,by rw [List.length_map,List.length_map,QO];lia,?_⟩
   refine ⟨_,ts ++ us,rfl,fun z u e=>?_,by rw [Qb,Rf,Rf,Rf,List.map_append],?_,fun t ht=>?_,by rw [List.length_append];lia⟩
   ·rw [Qg (Qi e hl)];exact g2 _ _ (g1 _ _ e)
   ·exact (hts.mono fun _ _ h=>(g2.seqT h).put hl2).app (hus.mono fun _ _ h=>h.put hl2)
   ·rcases List.mem_append.mp ht with ht | ht
    ·exact hfit t ht
    ·exact huf t ht
 ·rintro σ H1 ⟨c3,ts,rfl,g1,hl1,hts,hfit,htl⟩
  exact ⟨_,rfl,q l H1 ts g1 hl1 hts hfit (10:)⟩
end
end K25
namespace K25
open PySem L2 TM TT K9 K11
abbrev Rp:List Str:=["_law_cell", "_law_k", "_law_deep", "_law_calls_here", "_law_names_here", "_law_keep", "_law_number", "_law_wide", "_law_parts", "_law_kept", "_law_add"]
abbrev Ji:List Str:=["_law_cell", "_law_k", "_law_deep", "_law_calls_here", "_law_names_here", "_law_keep"]
section
variable {P:Program} {w:World} {K:PySem.W.Frag} {mg:Str→Option Value} {base:Heap} {f:Addr} {fd:FuncData}
theorem YB:FnScope Rp Ji (defScope JG):=(1:)
theorem NC {n:Nat} (F:Fun K "_law_term" "_law_term" JG f fd) (G:Gm mg) (RM:Fn P w K mg base 1 "_law_mixed" ["_law_cell", "_law_k"] Q8) (RG:Fn P w K mg base 1 "_law_great" ["_law_cell"] Yj) (R:Fn P w K mg base (n + 1) "_law_term" Ji (Yy K n)):FnOk P w K mg base CX0 (n + 2) f fd Ji (Yy K (n + 1)):=by
 refine F.ok YB (8:) (4:)
 ·obtain ⟨c,k,d,lc,ln,keep,ts,ns,own,kinds,_,_,rfl,_⟩:=h
  rfl
 obtain ⟨c,k,d,lc,ln,keep,ts,ns,own,kinds,hdn,hd2,rfl,hk0,hk1,hlc,hts,hfit,htl,hln,hn8,hnok,q⟩:=h
 have room:∀ m:Nat,m≤64→(A.deeper (PyProof.Rows.envOfC "_law_term" (defScope JG) s.heap.objs.size f cdv)).units + m < cLine:=fun m hm=>by have:=hr.units;lia
 refine ⟨_,(Qe (Qn (i:=6) YB.nd rfl (12:) (Qq RM hr (Qa (pv 0) (56:)) (Nat.le_add_left 1 n)))
  (Qe (QL (WR (PW.pt (pw_and (Qw Ua (pv 3) (QF Qc) (QA _)) (pw_and1 (Qw Vy (Ql Qs (pv 6) Qd) Qd (QA _)))))) (Qh (Qp (Ql VU (Qz (Qa (Q5) Qc)) (Qj Qm (pv 3) (Ql Qs (Ql QG (pv 6) Qd) (Qr Qo rfl G.len PySem.boot_len (Qa (pv 3) Qc))) (2:))))) Qu)
  (Qe (Qn (i:=7) YB.nd rfl (12:) Qd)
  (Qe (ZS (QL (Qw VF (pv 2) Qd (QA _)) (Qh (Qn (i:=7) YB.nd rfl (12:) (Ql QK (Ql ZR (pv 2) Qd) (Ql Qs (Ql QG (pv 6) Qd) (Ql ZR Qd (pv 2)))))) Qu))
  (Qe (ZV (i:=8) (CompG.many (xs:=["_law_j"]) (caps:=["_law_calls_here", "_law_cell", "_law_deep", "_law_k", "_law_keep", "_law_names_here"]) (cap:=[3,0,2,1,5,4]) (cs:=[_,_,_,_,_,_]) rfl rfl (0:) (0:) (0:) (0:) (0:) (0:) rfl rfl rfl) rfl (QX rfl G.rng (Qa (pv 7) Qc)) (Zo (CompG.many (xs:=["_law_j"]) (caps:=["_law_calls_here", "_law_cell", "_law_deep", "_law_k", "_law_keep", "_law_names_here"]) (cap:=[3,0,2,1,5,4]) (cs:=[_,_,_,_,_,_]) rfl rfl (0:) (0:) (0:) (0:) (0:) (0:) rfl rfl rfl)) (fun _ _ _ _=>Q2)
   (fun _ _ _ _=>Qq R hr (Qa (pv 2) (Qa (Ql QK (Ql QK (Ql Z5 Qd (pv 4)) (pv 0)) Qd) (Qa (Ql ZR (pv 3) Qd) (Qa (pv 1) (Qa (pv 6) (Qa (pv 5) Qc)))))) (7:)) YB.nd rfl rfl)
  (Qe (ZS (Qn (i:=9) YB.nd rfl (12:) (Ju (pv 5) (Xa (Yk Zc (Ql Qs (Ql QG (pv 6) Qd) Qd) Qd (QA _))))))
  (Qe (ZS (Qn (i:=10) YB.nd rfl (12:) (Qj Qm (QF (Qa (Qd) (Qa (Ql ZR (Ql Qs (Ql QG (pv 6) Qd) Qd) Qd) (Qa (Qq RG hr (Qa (pv 0) Qc) (Nat.le_add_left 1 n)) Qc)))) (Ql Qs (Ql QG (pv 6) Qd) Qd) (2:))))
  (Qh (Qp (Qz (Qa (Q5) (Qa (Qj Qm (pv 4) (Ql Qs (Ql QG (pv 6) Qd) Qd) (2:)) (Qa (pv 9) (Qa (pv 10) (Qa (Qx QN rfl G.tup PyProof.Rows.boot_tuple (Qa (pv 8) Qc)) Qc))))))))))))))),?_⟩
 have hk2:k≤10000:=by
  have:(1:Int)≤10 ^ d:=by
   rcases (show d=0∨d=1∨d=2 by lia) with rfl | rfl | rfl <;> decide
  have:=Int.mul_le_mul_of_nonneg_left this hk0
  lia
 refine ⟨_,rfl,_,rfl,c,k,rfl,hk0,by lia,fun x x0 x1=>?_⟩
 refine ⟨fun b H'=>Same H H'∧(b=true→ts≠[]),?_,?_⟩
 ·refine ⟨_,rfl,(15:),fun pe hpe=>?_⟩
  have ge:=Qf hpe (.lst [])
  refine ⟨_,.list [],.lst (ge.seq hlc) (Ro (hts.mono fun _ _=>ge.seqT)),.lst (SqL.of Qb) .nil,OB _,by simp [PyData.canLay0,PyData.canLayAll0],room _ (22:),_,rfl,?_⟩
  have e:=MD (ts.map (·.2))
  unfold datP at e
  rw [if_pos rfl,e]
  cases hte:ts with
  | nil=>exact ZE ⟨ge,fun z=>nomatch z⟩
  | cons t0 tr=>exact QZ ⟨_,rfl,_,_,rfl,rfl,(by show (0:Int) < 5;decide),_,_,rfl,rfl,_,rfl,ge,fun _ z=>nomatch z⟩
 rintro b H1 ⟨g1,hb⟩
 cases b with
 | true =>
  have hne:=hb rfl
  have htp:0 < ts.length:=List.length_pos_iff.mpr hne
  have erf:(Rf ts).length=ts.length:=List.length_map ..
  refine QZ ⟨(45:),fun pc hpc=>?_⟩
  have k1:=Qf hpc (.tup [.str YX])
  have g2:=g1.trans k1
  obtain ⟨y,hy,hat⟩:=Zx (xs:=Rf ts) (k:=((Rf ts).length:Int)) rfl (by rw [erf];exact htp) (x / 5)
  obtain ⟨t,ht,rfl⟩:=List.mem_map.mp hy
  obtain ⟨m,bb,et,hf⟩:=hfit t ht
  refine ⟨_,rfl,_,rfl,_,_,rfl,rfl,(13:),_,rfl,lc,_,rfl,.inl (g2.seq hlc),_,_,rfl,rfl,(by rw [erf];lia),lc,_,_,_,rfl,rfl,g2.seq hlc,hat,?_⟩
  have htt:=g2.seqT (hts t ht)
  rw [et] at htt
  refine ⟨pc,t.1,_,_,rfl,rfl,SqT.of Qb,htt,(by show 1 + 2≤sizeLine;decide),fun p H3 g3 hp3=>?_⟩
  exact q (.ref p) H3 (ZB m bb) (g2.trans g3) (.call hp3) (NE hf)
 | false =>
 refine ZE ?_
 refine ⟨fun σ' H'=>H'=H1∧∃ wi:Nat,wi≤2∧(0 < wi→0 < d)∧σ'=[some (.int c),some (.int k),some (.int (d:Int)),some (.ref lc),some (.ref ln),some (.bl keep),some (.int x),some (.int (wi:Int)),none,none,none],?_,?_⟩
 ·refine ⟨_,rfl,_,_,rfl,rfl,_,rfl,Zt (fun cc=>?_) (fun cc=>⟨rfl,0,by lia,fun z=>by lia,rfl⟩)⟩
  have hd0:(d:Int) > 0:=of_decide_eq_true cc
  have p4:(0:Int) < 4 - (d:Int):=by lia
  refine ⟨_,rfl,_,_,rfl,rfl,_,rfl,_,_,rfl,rfl,(13:),_,rfl,_,_,rfl,rfl,_,_,rfl,rfl,p4,_,_,rfl,rfl,rfl,?_⟩
  have a0:0≤x / 8 % (4 - (d:Int)):=Int.emod_nonneg _ (10:)
  have a1:x / 8 % (4 - (d:Int)) < 4 - (d:Int):=Int.emod_lt_of_pos _ p4
  generalize hz:x / 8 % (4 - (d:Int))=z at a0 a1
  refine ⟨((d:Int) - 1 + z).toNat,by lia,fun _=>by lia,?_⟩
  dsimp only
  rw [Int.toNat_of_nonneg (10:)]
  rfl
 rintro σ H2 ⟨rfl,wi,hw2,hwd,rfl⟩
 refine ⟨_,rfl,_,rfl,by lia,by lia,fun acc hacc=>?_⟩
 rw [Int.toNat_natCast]
 refine ZI (lo:=0) (n:=wi) (cs:=[some (.ref lc),some (.int c),some (.int (d:Int)),some (.int k),some (.bl keep),some (.ref ln)]) (tt:=fun _ H Q=>Q true H) (fun j ys H'=>∃ us:List Tm,H' acc=some (.lst ys)∧Same H2 H'∧TmAll K H' ys us∧us.length=j∧∀ t ∈ us,TF own kinds n t)
  ⟨[],Qb,Qf hacc _,.nil,rfl,fun t ht=>(nomatch ht)⟩ ?_ ?_
 ·rintro j ys H3 hj ⟨us,hy,g3,hus,hul,huf⟩
  obtain ⟨e,rfl⟩ : ∃ e,d=e + 1:=⟨d - 1,by lia⟩
  have gg:=g1.trans g3
  have hyl:=hus.length
  have ek:((3 * k + (0 + (j:Int))+1):Int) * 10 ^ e≤10000:=by
   rcases (show e=0∨e=1 by lia) with rfl | rfl
   ·simp only [Int.pow_zero,Int.mul_one] at hk1 ⊢
    simp only [Nat.zero_add] at hk1
    lia
   ·simp only [Nat.reduceAdd] at hk1
    lia
  refine QZ ⟨_,rfl,_,rfl,_,_,rfl,rfl,.inl (13:),_,rfl,_,_,rfl,rfl,_,_,rfl,rfl,_,rfl,_,_,rfl,rfl,_,rfl,_,rfl,_,rfl,c,_,e,lc,ln,keep,ts,ns,own,kinds,by lia,by lia,?_,?_,ek,gg.seq hlc,hts.mono fun _ _=>gg.seqT,hfit,htl,gg.seq hln,hn8,hnok,fun v H4 t g4 hv ht=>?_⟩
  ·show [V.int c,V.int (3 * k + (0 + (j:Int))+1),V.int (((e + 1:Nat):Int) - 1),V.ref lc,V.ref ln,V.bl keep]=_
   rw [show (((e + 1:Nat):Int) - 1)=(e:Int) by lia]
  ·lia
  refine QB hj (g4 _ _ hy) (10:) ⟨us ++ [t],Qb,fun z u e=>?_,?_,by rw [List.length_append,List.length_singleton,hul],fun t' ht'=>?_⟩
  ·rw [Qg (Qi e hacc)];exact g4 _ _ (g3 _ _ e)
  ·exact TmAll.append (hus.mono fun _ _ h=>(g4.seqT h).put (g4 _ _ hy)) (.cons (hv.mono fun _ _ h=>h.put (g4 _ _ hy)) .nil)
  ·rcases List.mem_append.mp ht' with ht' | ht'
   ·exact huf t' ht'
   ·have:t'=t:=by simpa using ht'
    rw [this];exact ht
 rintro ys H3 ⟨us,hy,g3,hus,hul,huf⟩
 have hyl:=hus.length
 have gg:=g1.trans g3
 refine ⟨fun σ' H'=>H'=H3∧∃ b:Bool,σ'=[some (.int c),some (.int k),some (.int (d:Int)),some (.ref lc),some (.ref ln),some (.bl keep),some (.int x),some (.int (wi:Int)),some (.ref acc),some (.bl b),none],?_,?_⟩
 ·refine ⟨_,rfl,keep,rfl,?_⟩
  cases keep with
  | false=>exact ZE ⟨rfl,false,rfl⟩
  | true=>exact QZ ⟨_,rfl,_,_,rfl,rfl,(13:),_,_,rfl,rfl,(by show (0:Int) < 2;decide),rfl,rfl,_,rfl⟩
 rintro σ H4 ⟨rfl,kb,rfl⟩
 refine ⟨fun σ' H'=>Same H4 H'∧∃ ad:Int,σ'=[some (.int c),some (.int k),some (.int (d:Int)),some (.ref lc),some (.ref ln),some (.bl keep),some (.int x),some (.int (wi:Int)),some (.ref acc),some (.bl kb),some (.int ad)],?_,?_⟩
 ·refine ⟨_,rfl,_,_,rfl,rfl,(13:),_,_,rfl,rfl,(by show (0:Int) < 19;decide),_,_,rfl,rfl,_,rfl,c,rfl,fun gx=>⟨(21:),fun l hl=>?_⟩⟩
  refine ⟨_,rfl,_,_,rfl,rfl,(13:),_,_,rfl,rfl,(by show (0:Int) < 3;decide),?_⟩
  obtain ⟨y,hy,hat⟩:=Zx (xs:=[.int 0,.int (x / 512 % 19 - 9),.int gx]) (k:=3) rfl (by show 0 < 3;decide) (x / 64)
  refine ⟨l,_,_,y,rfl,rfl,SqL.of Qb,hat,Qf hl _,?_⟩
  simp only [List.mem_cons,List.mem_nil_iff,or_false] at hy
  rcases hy with rfl | rfl | rfl
  ·exact (54:)
  ·exact (54:)
  ·exact (54:)
 rintro σ H5 ⟨g5,ad,rfl⟩
 have g15:=gg.trans g5
 obtain ⟨y,hyn,hat⟩:=Zx (xs:=ns.map V.str) (k:=8) (by rw [List.length_map,hn8];rfl) (29:) (x / 16384)
 obtain ⟨nm,hnm,rfl⟩:=List.mem_map.mp hyn
 refine ⟨_,rfl,_,rfl,_,_,rfl,rfl,(13:),_,_,rfl,rfl,(by show (0:Int) < 8;decide),ln,_,_,_,rfl,rfl,g15.seq hln,hat,_,rfl,_,rfl,_,rfl,acc,ys,rfl,.inl ⟨SqL.of (g5 _ _ hy),fun pt hpt=>⟨(by show 5≤sizeLine;decide),fun pr hpr=>?_⟩⟩⟩
 have k1:=Qf hpt (.tup ys)
 have k2:=Qf hpr (.tup [.str PUT,.str nm,.bl kb,.int ad,.ref pt])
 have k12:=k1.trans k2
 refine q (.ref pr) _ (.node (.put nm kb ad) 0 us) (g15.trans k12) (.put (SqT.of Qb) (k2.seqT (SqT.of Qb)) (hus.mono fun _ _=>(g5.trans k12).seqT) (10:)) (OK (hnok nm hnm) (10:) huf)
theorem Gi {k:Nat}:FnOk P w K mg base CX0 k f fd Ji (Yy K 0):=by
 have no:∀ vs H Q E,¬ Yy K 0 vs H Q E:=fun vs H Q E h=>by
  obtain ⟨c,k,d,lc,ln,keep,ts,ns,own,kinds,h0,_⟩:=h
  lia
 exact (28:)
theorem Wn (F:Fun K "_law_term" "_law_term" JG f fd) (G:Gm mg) (RM:Fn P w K mg base 1 "_law_mixed" ["_law_cell", "_law_k"] Q8) (RG:Fn P w K mg base 1 "_law_great" ["_law_cell"] Yj) (hb:Binds K fd Ji []) (hm:mg "_law_term" = some (.ref f)):∀ n:Nat,FnOk P w K mg base CX0 (n + 1) f fd Ji (Yy K n)
 | 0=>Gi
 | n + 1=>NC F G RM RG ⟨f,fd,Wn F G RM RG hb hm n,hb,F.kp,hm⟩
end
end K25
namespace K25
open PySem L2 TM TT K9 K11
def Rs (t:TE):TE:=fun σ H Q=>∃ R:VK,t σ H R∧∀ v H',R v H'→Q v H'
theorem G9 {X:Cx} {e:Expr} {t:TE} (h:PE X e t):PE X e (Rs t):=by
 intro pins s σ H Q I hw
 obtain ⟨R,h1,h2⟩:=hw
 exact thn (h pins s σ H R I h1) fun u s1 ⟨x,H1,I1,r1,q1⟩=>⟨x,H1,I1,r1,h2 x H1 q1⟩
def KdH (K:PySem.W.Frag) (H:Hp) (lw:Addr) (k:KdT):Prop:=SqT K H k.1 [.str k.2.1,.ref k.2.2.1]∧H k.2.2.1=some (.lst (k.2.2.2.map fun t=>V.ref t.1))∧k.2.2.1≠lw∧∀ t ∈ k.2.2.2,RowAt K H t
theorem KdH.same {K:PySem.W.Frag} {H H':Hp} {lw:Addr} {k:KdT} (g:Same H H') (h:KdH K H lw k):KdH K H' lw k:=⟨g.seqT h.1,g _ _ h.2.1,h.2.2.1,fun t ht=>(h.2.2.2 t ht).same g⟩
theorem KdH.put {K:PySem.W.Frag} {H:Hp} {lw:Addr} {k:KdT} {ys:List V} {o:HO} (hl:H lw=some (.lst ys)) (h:KdH K H lw k):KdH K (upd H lw o) lw k :=
 ⟨h.1.put hl,by rw [Qg h.2.2.1];exact h.2.1,h.2.2.1,fun t ht=>⟨(h.2.2.2 t ht).1.put hl,(h.2.2.2 t ht).2.put hl⟩⟩
abbrev Ov (K:PySem.W.Frag):List V→Hp→VK→Prop:=fun xs H Q=>∃ p ys,xs=[.ref p]∧(SqL K H p ys∨SqT K H p ys)∧Q (.int ys.length) H
structure KF (kn:List Str) (rs:List PNx):Prop where
 ok:RowsOk rs
 bare:∃ r ∈ rs,r.2.2.2=[]
 cl:∀ r ∈ rs,∀ x ∈ r.2.2.2,x ∈ kn
 w3:∀ r ∈ rs,r.2.2.2.length≤3
structure WF (ks:List KdT):Prop where
 ok:WoodOk ks
 ne:0 < ks.length
 l3:ks.length≤3
 nm:∀ k ∈ ks,PyData.strOk k.2.1=true
 kf:∀ k ∈ ks,KF (ks.map fun k=>k.2.1) k.2.2.2
def W2 (K:PySem.W.Frag):Sp:=fun vs H Q _=>∃ (c:Int) (ln:Addr) (ns:List Str),vs=[.int c,.ref ln]∧SqL K H ln (ns.map V.str)∧ns.length=8∧ns.Nodup∧(∀ x ∈ ns,PyData.strOk x=true) ∧
 ∀ (lw:Addr) (H':Hp) (ks:List KdT),Same H H'→WoodAt K H' lw ks→WF ks→(∀ k ∈ ks,k.2.1 ∈ ns)→Q (.ref lw) H'
abbrev PZ:List Str:=["_law_cell", "_law_names_here", "_law_kinds", "_law_wood_here", "_law_i", "_law_first", "_law_rows", "_law_r", "_law_number", "_law_wide", "_law_branches"]
section
variable {P:Program} {w:World} {K:PySem.W.Frag} {mg:Str→Option Value} {base:Heap} {f:Addr} {fd:FuncData}
theorem ZC:FnScope PZ ["_law_cell", "_law_names_here"] (defScope VP):=(1:)
theorem Ol (F:Fun K "_law_wood" "_law_wood" VP f fd) (G:Gm mg) (RM:Fn P w K mg base 1 "_law_mixed" ["_law_cell", "_law_k"] Q8):FnOk P w K mg base CX0 2 f fd ["_law_cell", "_law_names_here"] (W2 K):=by
 refine F.ok ZC (8:) (4:)
 ·obtain ⟨c,ln,ns,rfl,_⟩:=h
  rfl
 obtain ⟨c,ln,ns,rfl,hln,hn8,hnd,hnok,q⟩:=h
 have room:∀ m:Nat,m≤64→(A.deeper (PyProof.Rows.envOfC "_law_wood" (defScope VP) s.heap.objs.size f cdv)).units + m < cLine:=fun m hm=>by have:=hr.units;lia
 refine ⟨_,(Qe (Qn (i:=2) ZC.nd rfl (Or.inr rfl) (YN Uy (pv 1) XB (YU (Ql QK Qd (Ql Qs (pv 0) Qd)))))
  (Qe (Qn (i:=3) ZC.nd rfl (12:) (QF Qc))
  (Qe (QU PassesOwn.never rfl (QX rfl G.rng (Qa (Qr Qo rfl G.len PySem.boot_len (Qa (pv 2) Qc)) Qc)) (QC (i:=4) ZC.nd rfl (12:)) (Qe (Qn (i:=5) ZC.nd rfl (12:) (Qq RM hr (Qa (pv 0) (Qa (pv 4) Qc))))
  (Qe (Qn (i:=6) ZC.nd rfl (12:) (QF Qc))
  (Qe (QU PassesOwn.never rfl (QX rfl G.rng (Qa (G9 (Ql ZR (Ql QK Qd (Ql Qs (pv 5) Qd)) (Qx V9 rfl G.int PyProof.Rows.boot_int (Qa (Ju (Yk VF (pv 4) Qd (QA _)) (Xa (Yk Zc (Ql Qs (Ql QG (pv 5) Qd) Qd) Qd (QA _)))) Qc)))) Qc)) (QC (i:=7) ZC.nd rfl (12:)) (Qe (Qn (i:=8) ZC.nd rfl (Or.inr rfl) (Qq RM hr (Qa (pv 0) (Qa (Ql QK (Ql QK Qd (Ql Z5 Qd (pv 4))) (pv 7)) Qc))))
  (Qe (ZS (Qn (i:=9) ZC.nd rfl (12:) (Qj Qm (QF (Qa (Qd) (Qa (Ql QK Qd (Ql Qs (pv 8) Qd)) (Qa (Ql Qs (pv 8) Qd) Qc)))) (pv 7) (2:))))
  (Qe (ZV (i:=10) (CompG.many (xs:=["_law_j"]) (caps:=["_law_kinds", "_law_number"]) (cap:=[2,8]) (cs:=[_,_]) rfl rfl (0:) (0:) (0:) (0:) (0:) (0:) rfl rfl rfl) rfl (QX rfl G.rng (Qa (pv 9) Qc)) (Zo (CompG.many (xs:=["_law_j"]) (caps:=["_law_kinds", "_law_number"]) (cap:=[2,8]) (cs:=[_,_]) rfl rfl (0:) (0:) (0:) (0:) (0:) (0:) rfl rfl rfl)) (fun _ _ _ _=>Q2) (fun _ _ _ _=>Qj (r:=Xx K) Qm (pv 1) (Ql (r:=rI (fun _ j=>0 < j) fun i j=>.int (i % j)) Qs (Qq RM hr (Qa (pv 2) (Qa (pv 0) Qc))) (Qr (r:=Ov K) Qo rfl G.len PySem.boot_len (56:))) (2:)) ZC.nd rfl rfl)
  (Qh (QI (Zk PySem.F.plainAttrs_list PySem.F.slot_list_append PySem.F.type_list_append QY (pv 6) (Qa ((Qz (Qa (Qj Qm (pv 1) (Ql Qs (Ql QK (Ql QG (pv 5) Qd) (pv 7)) Qd) (2:)) (Qa (Qx QN rfl G.tup PyProof.Rows.boot_tuple (Qa (pv 10) Qc)) Qc)))) Qc))))))))
  (Qh (QI (Zk PySem.F.plainAttrs_list PySem.F.slot_list_append PySem.F.type_list_append QY (pv 3) (Qa ((Qz (Qa (Qj Qm (pv 2) (pv 4) (2:)) (Qa (Qr (J8 (room 4 (27:))) rfl G.srt PyProof.Rows.boot_sorted (Qa (pv 6) Qc)) Qc)))) Qc))))))))
  (Qh (Qp (pv 3)))))),?_⟩
 have m0:0≤c % 3:=Int.emod_nonneg _ (27:)
 have m1:c % 3 < 3:=Int.emod_lt_of_pos _ (27:)
 refine ⟨_,rfl,_,rfl,_,_,rfl,rfl,(by show (0:Int) < 3;decide),_,_,rfl,rfl,_,rfl,ln,_,rfl,hln,fun lk hlk=>?_⟩
 obtain ⟨mm,hmm⟩ : ∃ mm:Nat,1 + c % 3=(mm:Int):=⟨(1 + c % 3).toNat,by lia⟩
 dsimp only at hlk ⊢
 obtain ⟨kn,hkn⟩ : ∃ kn,kn=ns.take mm:=(54:)
 have ecut:cutV (ns.map V.str) none (some (1 + c % 3))=kn.map V.str:=by rw [hmm,MJ,hkn,List.map_take]
 have g1:=Qf hlk (.lst (cutV (ns.map V.str) none (some (1 + c % 3))))
 have hlk1:upd H lk (.lst (cutV (ns.map V.str) none (some (1 + c % 3)))) lk=some (.lst (kn.map V.str)):=by rw [← ecut];exact Qb
 generalize upd H lk (.lst (cutV (ns.map V.str) none (some (1 + c % 3))))=H1 at g1 hlk1
 have hkl:kn.length=mm:=by rw [hkn,List.length_take];lia
 have hknd:kn.Nodup:=by rw [hkn];exact hnd.sublist (List.take_sublist _ _)
 have hkok:∀ x ∈ kn,PyData.strOk x=true:=fun x hx=>hnok x (List.mem_of_mem_take (by rw [← hkn];exact hx))
 have hkm:(kn.map V.str).length=kn.length:=List.length_map ..
 refine ⟨(15:),fun lw hlw=>?_⟩
 have k2:=Qf hlw (.lst [])
 refine ⟨_,rfl,lk,_,rfl,.inl (SqL.of (k2 _ _ hlk1)),_,rfl,by rw [hkm];lia,by rw [hkm];lia,?_⟩
 have en:(((kn.map V.str).length:Nat):Int).toNat=kn.length:=by rw [hkm];lia
 rw [en]
 refine ZJ (lo:=0) (n:=kn.length) (fun i σ H'=>∃ (c4 c5 c6 c7 c8 c9 c10:Option V) (ks:List KdT),σ=[some (.int c),some (.ref ln),some (.ref lk),some (.ref lw),c4,c5,c6,c7,c8,c9,c10]∧Same H1 H'∧H' lw=some (.lst (ks.map fun k=>V.ref k.1))∧(∀ k ∈ ks,KdH K H' lw k∧KF kn k.2.2.2)∧(ks.map fun k=>k.2.1)=kn.take i)
  ⟨none,none,none,none,none,none,none,[],rfl,k2,Qb,fun k hk=>(nomatch hk),rfl⟩ ?_ ?_
 ·rintro i σ H2 hi ⟨c4,c5,c6,c7,c8,c9,c10,ks,rfl,g2,hlw2,hks,hkk⟩
  have hksl:ks.length=i:=by
   have:=congrArg List.length hkk
   rw [List.length_map,List.length_take] at this
   lia
  refine ⟨_,rfl,_,rfl,c,_,rfl,by lia,by lia,fun fi f0 f1=>?_⟩
  refine ⟨(15:),fun lr hlr=>?_⟩
  have k3:=Qf hlr (.lst [])
  have hlrw:lw≠lr:=fun z=>by rw [← z,hlw2] at hlr;cases hlr
  refine ⟨fun v H'=>H'=upd H2 lr (.lst [])∧∃ n:Nat,v=.int (n:Int)∧1≤n∧n≤3,?_,?_⟩
  ·refine ⟨_,rfl,_,_,rfl,rfl,(by show (0:Int) < 2;decide),_,_,rfl,rfl,?_⟩
   have p0:0≤fi % 2:=Int.emod_nonneg _ (27:)
   have p1:fi % 2 < 2:=Int.emod_lt_of_pos _ (27:)
   refine ⟨_,rfl,_,_,rfl,rfl,_,rfl,Zt (fun _=>?_) (fun hb=>?_)⟩
   ·refine ⟨_,rfl,_,_,rfl,rfl,(13:),_,_,rfl,rfl,(by show (0:Int) < 3;decide),rfl,.inr ⟨_,rfl,_,_,rfl,rfl,rfl,?_⟩⟩
    refine ⟨(2 + fi % 2 - (if decide (V.int (fi / 2 % 3)=V.int 0)=true then 1 else 0)).toNat,?_,?_,?_⟩
    ·rw [Int.toNat_of_nonneg (by split <;> lia)]
    ·split <;> lia
    ·split <;> lia
   ·refine .inr ⟨_,rfl,_,_,rfl,rfl,rfl,(2 + fi % 2).toNat,?_,by lia,by lia⟩
    dsimp only
    rw [Int.toNat_of_nonneg (10:)]
    simp
  rintro v H3 ⟨rfl,cnt,rfl,hc1,hc3⟩
  refine ⟨_,rfl,by lia,by lia,?_⟩
  rw [Int.toNat_natCast]
  refine ZJ (lo:=0) (n:=cnt) (fun r σ H'=>∃ (c7 c8 c9 c10:Option V) (rs:List PNx),σ=[some (.int c),some (.ref ln),some (.ref lk),some (.ref lw),some (.int (0 + (i:Int))),some (.int fi),some (.ref lr),c7,c8,c9,c10]∧Same H2 H'∧H' lr=some (.lst (rs.map fun t=>V.ref t.1))∧rs.length=r∧(∀ t ∈ rs,RowAt K H' t∧(∀ x ∈ t.2.2.2,x ∈ kn)∧t.2.2.2.length≤3)∧(∀ (j:Nat) t,rs[j]?=some t→ns[((fi / 16 + (j:Int)) % 8).toNat]?=some t.2.1)∧∀ t,rs[0]?=some t→t.2.2.2=[])
   ⟨_,_,_,_,[],rfl,k3,Qb,rfl,fun t ht=>(nomatch ht),fun j t h=>by simp at h,fun t h=>by simp at h⟩ ?_ ?_
  ·rintro r σ H4 hr3 ⟨c7,c8,c9,c10,rs,rfl,g4,hlr4,hrl,hrs,hrn,hr0⟩
   refine ⟨_,rfl,_,rfl,_,_,rfl,rfl,.inl (13:),_,_,rfl,rfl,_,rfl,_,_,rfl,rfl,c,_,rfl,by lia,by lia,fun nu n0 n1=>?_⟩
   refine ⟨fun σ' H'=>Same H4 H'∧∃ wi:Nat,wi≤3∧(r=0→wi=0)∧σ'=[some (.int c),some (.ref ln),some (.ref lk),some (.ref lw),some (.int (0 + (i:Int))),some (.int fi),some (.ref lr),some (.int (0 + (r:Int))),some (.int nu),some (.int (wi:Int)),c10],?_,?_⟩
   ·refine ⟨_,rfl,_,_,rfl,rfl,(by show (0:Int) < 2;decide),_,_,rfl,rfl,_,rfl,_,_,rfl,rfl,(by show (0:Int) < 4;decide),(21:),fun pl hpl=>?_⟩
    have a0:0≤nu % 2:=Int.emod_nonneg _ (27:)
    have a1:nu % 2 < 2:=Int.emod_lt_of_pos _ (27:)
    have b0:0≤nu % 4:=Int.emod_nonneg _ (27:)
    have b1:nu % 4 < 4:=Int.emod_lt_of_pos _ (27:)
    have kl:=Qf hpl (.lst [.int 0,.int (1 + nu % 2),.int (nu % 4)])
    rcases (show r=0∨r=1∨r=2 by lia) with rfl | rfl | rfl
    ·exact ⟨_,rfl,pl,_,_,_,rfl,rfl,SqL.of Qb,rfl,kl,0,by lia,fun _=>rfl,rfl⟩
    ·exact ⟨_,rfl,pl,_,_,.int (1 + nu % 2),rfl,rfl,SqL.of Qb,rfl,kl,(1 + nu % 2).toNat,by lia,fun z=>by lia,by rw [Int.toNat_of_nonneg (10:)];rfl⟩
    ·exact ⟨_,rfl,pl,_,_,.int (nu % 4),rfl,rfl,SqL.of Qb,rfl,kl,(nu % 4).toNat,by lia,fun z=>by lia,by rw [Int.toNat_of_nonneg (10:)];rfl⟩
   rintro σ H5 ⟨g5,wi,hw3,hw0,rfl⟩
   refine ⟨_,rfl,_,rfl,by lia,by lia,fun lb hlb=>?_⟩
   rw [Int.toNat_natCast]
   have hlk5:=g5 _ _ (g4 _ _ (g2 _ _ hlk1))
   refine ZI (lo:=0) (n:=wi) (cs:=[some (.ref lk),some (.int nu)]) (tt:=fun _ H Q=>Q true H) (fun j ys H'=>∃ ss:List Str,ys=ss.map V.str∧ss.length=j∧(∀ x ∈ ss,x ∈ kn)∧H' lb=some (.lst ys)∧Same H5 H')
    ⟨[],rfl,rfl,fun x hx=>(nomatch hx),Qb,Qf hlb _⟩ ?_ ?_
   ·rintro j ys H6 hj ⟨ss,rfl,hsl,hsk,hy,g6⟩
    refine QZ ⟨_,rfl,_,rfl,_,rfl,nu,_,rfl,by lia,by lia,fun z z0 z1=>⟨_,rfl,lk,_,rfl,.inl (SqL.of (g6 _ _ hlk5)),_,_,rfl,rfl,(by rw [hkm];lia),?_⟩⟩
    obtain ⟨y,hyn,hat⟩:=Zx (xs:=kn.map V.str) (k:=((kn.map V.str).length:Int)) rfl (by rw [hkm];lia) z
    obtain ⟨x,hx,rfl⟩:=List.mem_map.mp hyn
    refine ⟨lk,_,_,_,rfl,rfl,SqL.of (g6 _ _ hlk5),hat,?_⟩
    refine QB hj hy (29:) ⟨ss ++ [x],by simp,by simp [hsl],fun x' hx'=>?_,Qb,fun z u e=>?_⟩
    ·rcases List.mem_append.mp hx' with hx' | hx'
     ·exact hsk x' hx'
     ·have:x'=x:=by simpa using hx'
      rw [this];exact hx
    ·rw [Qg (Qi e hlb)];exact g6 _ _ e
   rintro ys H6 ⟨ss,rfl,hsl,hsk,hy,g6⟩
   have g46:=g5.trans g6
   have g16:=(g1.trans (g2.trans g4)).trans g46
   have hi8:0≤(fi / 16 + (0 + (r:Int))) % 8:=Int.emod_nonneg _ (27:)
   have hi9:(fi / 16 + (0 + (r:Int))) % 8 < 8:=Int.emod_lt_of_pos _ (27:)
   have hnx:((fi / 16 + (0 + (r:Int))) % 8).toNat < ns.length:=by lia
   have hat:atI (ns.map V.str) ((fi / 16 + (0 + (r:Int))) % 8)=some (.str ns[((fi / 16 + (0 + (r:Int))) % 8).toNat]):=by
    have z:=Qv (xs:=ns.map V.str) (j:=((fi / 16 + (0 + (r:Int))) % 8).toNat) (v:=.str ns[((fi / 16 + (0 + (r:Int))) % 8).toNat]) (by rw [List.getElem?_map,List.getElem?_eq_getElem hnx];rfl)
    rw [Int.toNat_of_nonneg hi8] at z
    exact z
   refine ⟨_,rfl,.inl ⟨rfl,_,SqL.of (g46 _ _ hlr4)⟩,_,rfl,_,rfl,_,_,rfl,rfl,(13:),_,rfl,_,_,rfl,rfl,_,_,rfl,rfl,(by show (0:Int) < 8;decide),ln,_,_,_,rfl,rfl,g16.seq hln,hat,_,rfl,lb,_,rfl,.inl ⟨SqL.of hy,fun pb hpb=>⟨(44:),fun pr hpr=>?_⟩⟩⟩
   generalize hnm:ns[((fi / 16 + (0 + (r:Int))) % 8).toNat]=nm
   have e1:=Qf hpb (.tup (ss.map V.str))
   have e2:=Qf hpr (.tup [.str nm,.ref pb])
   have e12:=e1.trans e2
   have hlr7:=e12 _ _ (g46 _ _ hlr4)
   refine ⟨lr,_,_,rfl,rfl,hlr7,by rw [List.length_map,QO];lia,?_⟩
   refine ⟨_,_,_,_,rs ++ [(pr,nm,pb,ss)],rfl,fun z u e=>?_,by rw [Qb];simp,by rw [List.length_append,List.length_singleton,hrl],fun t ht=>?_,fun j t e=>?_,fun t e=>?_⟩
   ·rw [Qg (Qi e hlr)];exact e12 _ _ (g46 _ _ (g4 _ _ e))
   ·rcases List.mem_append.mp ht with ht | ht
    ·obtain ⟨h1,h2⟩:=hrs t ht
     have h1':=h1.same (g46.trans e12)
     exact ⟨⟨h1'.1.put hlr7,h1'.2.put hlr7⟩,h2⟩
    ·have:t=(pr,nm,pb,ss):=by simpa using ht
     rw [this]
     exact ⟨⟨SqT.put (SqT.of Qb) hlr7,SqT.put (e2.seqT (SqT.of Qb)) hlr7⟩,hsk,by show ss.length≤3;lia⟩
   ·by_cases hj:j < r
    ·rw [List.getElem?_append_left (10:)] at e
     exact hrn j t e
    ·have hjr:j=r:=by
      have:=(List.getElem?_eq_some_iff.mp e).1
      rw [List.length_append,List.length_singleton] at this
      lia
     rw [List.getElem?_append_right (10:),hrl,hjr,Nat.sub_self] at e
     obtain rfl:=Option.some.inj e
     rw [hjr,← hnm,show fi / 16 + (r:Int)=fi / 16 + (0 + (r:Int)) by lia]
     exact List.getElem?_eq_getElem hnx
   ·by_cases hr0':r=0
    ·have hrs0:rs=[]:=List.length_eq_zero_iff.mp (10:)
     rw [hrs0] at e
     obtain rfl:=Option.some.inj e
     have:ss.length=0:=by rw [hsl];exact hw0 hr0'
     exact List.length_eq_zero_iff.mp this
    ·rw [List.getElem?_append_left (10:)] at e
     exact hr0 t e
  rintro σ H4 ⟨c7,c8,c9,c10,rs,rfl,g4,hlr4,hrl,hrs,hrn,hr0⟩
  have hat:atI (kn.map V.str) (0 + (i:Int))=some (.str kn[i]):=by
   rw [Int.zero_add]
   exact Qv (by rw [List.getElem?_map,List.getElem?_eq_getElem hi];rfl)
  have hrnd:(rs.map fun t=>t.2.1).Nodup:=by
   rw [List.Nodup,List.pairwise_iff_getElem]
   intro a b ha hb hab
   rw [List.length_map] at ha hb
   rw [List.getElem_map,List.getElem_map]
   intro e
   have h1:=hrn a rs[a] (List.getElem?_eq_getElem ha)
   have h2:=hrn b rs[b] (List.getElem?_eq_getElem hb)
   rw [e,← h2] at h1
   have hl1:((fi / 16 + (a:Int)) % 8).toNat < ns.length:=by
    have:=Int.emod_lt_of_pos (fi / 16 + (a:Int)) (show (0:Int) < 8 by decide)
    have:=Int.emod_nonneg (fi / 16 + (a:Int)) (show (8:Int)≠0 by decide)
    lia
   have:=(List.getElem?_inj hl1 hnd).mp h1
   lia
  have hlr4':=SqL.of (K:=K) hlr4
  have hrs4:∀ t ∈ rs,SqT K H4 t.1 [.str t.2.1,.ref t.2.2.1]∧SqT K H4 t.2.2.1 (t.2.2.2.map V.str)∧∀ x ∈ t.2.2.2,PyData.strOk x=true:=fun t ht=>⟨(hrs t ht).1.1,(hrs t ht).1.2,fun x hx=>hkok x ((hrs t ht).2.1 x hx)⟩
  have hlw4:=g4 _ _ hlw2
  refine ⟨_,rfl,.inl ⟨rfl,_,SqL.of hlw4⟩,_,rfl,_,rfl,lk,_,_,_,rfl,rfl,SqL.of (g4 _ _ (g2 _ _ hlk1)),hat,_,rfl,lr,rs,rfl,hlr4',hrs4,hrnd,by lia,fun out po hperm hasc hpo=>⟨(44:),fun pk hpk=>?_⟩⟩
  have e1:=Qf hpo (.lst (out.map fun t=>V.ref t.1))
  have e2:=Qf hpk (.tup [.str kn[i],.ref po])
  have e12:=e1.trans e2
  have hlw6:=e12 _ _ hlw4
  have hpow:po≠lw:=fun z=>by rw [z,hlw4] at hpo;cases hpo
  refine ⟨lw,_,_,rfl,rfl,hlw6,by rw [List.length_map,QO];lia,?_⟩
  have hom:∀ t ∈ out,t ∈ rs:=fun t ht=>hperm.mem_iff.mp ht
  refine ⟨_,_,_,_,_,_,_,ks ++ [(pk,kn[i],po,out)],rfl,fun z u e=>?_,by rw [Qb];simp,fun k hk=>?_,?_⟩
  ·rw [Qg (Qi e hlw)];exact e12 _ _ (g4 _ _ (g2 _ _ e))
  ·rcases List.mem_append.mp hk with hk | hk
   ·exact ⟨KdH.put hlw6 ((hks k hk).1.same (g4.trans e12)),(hks k hk).2⟩
   ·have:k=(pk,kn[i],po,out):=by simpa using hk
    rw [this]
    refine ⟨KdH.put hlw6 ⟨SqT.of Qb,e2 _ _ Qb,hpow,fun t ht=>((hrs t (hom t ht)).1).same e12⟩,⟨⟨?_,?_,fun t ht=>?_,fun t ht x hx=>?_,fun t ht=>?_⟩,?_,fun t ht=>(hrs t (hom t ht)).2.1,fun t ht=>(hrs t (hom t ht)).2.2⟩⟩
    ·exact (hperm.map _).nodup_iff.mpr hrnd
    ·show out.length≤10
     rw [hperm.length_eq];lia
    ·obtain ⟨j,hj,e⟩:=List.getElem_of_mem (hom t ht)
     have:=hrn j t (by rw [List.getElem?_eq_getElem hj,e])
     exact hnok _ (List.mem_of_getElem? this)
    ·exact hkok x ((hrs t (hom t ht)).2.1 x hx)
    ·have:=(hrs t (hom t ht)).2.2
     lia
    ·have h0:0 < rs.length:=by lia
     exact ⟨rs[0],hperm.mem_iff.mpr (List.getElem_mem h0),hr0 rs[0] (List.getElem?_eq_getElem h0)⟩
  ·rw [List.map_append,hkk,List.take_add_one,List.getElem?_eq_getElem hi];rfl
 ·rintro σ H2 ⟨c4,c5,c6,c7,c8,c9,c10,ks,rfl,g2,hlw2,hks,hkk⟩
  rw [List.take_of_length_le (7:)] at hkk
  have hksl:ks.length=kn.length:=by
   have:=congrArg List.length hkk
   rwa [List.length_map] at this
  refine ⟨_,rfl,q lw H2 ks (g1.trans g2) ⟨SqL.of hlw2,fun k hk=>⟨(hks k hk).1.1,SqL.of (hks k hk).1.2.1,(hks k hk).1.2.2.2⟩⟩ ⟨⟨by rw [hkk];exact hknd,by lia,fun k hk=>(hks k hk).2.ok⟩,by lia,by lia,fun k hk=>hkok _ (by rw [← hkk];exact List.mem_map.mpr ⟨k,hk,rfl⟩),fun k hk=>by rw [hkk];exact (hks k hk).2⟩ fun k hk=>List.mem_of_mem_take (by rw [← hkn,← hkk];exact List.mem_map.mpr ⟨k,hk,rfl⟩)⟩
end
end K25
namespace K25
open PySem L2 TM TT K9 K11
def MdB (K:PySem.W.Frag) (H:Hp) (x:Addr) (m:MdT):Prop:=SqT K H m.1 [.str m.2.1,.ref m.2.2.1]∧H m.2.2.1=some (.lst m.2.2.2.1)∧m.2.2.1≠x∧TmAll K H m.2.2.2.1 m.2.2.2.2
theorem MdB.same {K:PySem.W.Frag} {H H':Hp} {x:Addr} {m:MdT} (g:Same H H') (h:MdB K H x m):MdB K H' x m:=⟨g.seqT h.1,g _ _ h.2.1,h.2.2.1,h.2.2.2.mono fun _ _=>g.seqT⟩
theorem MdB.put {K:PySem.W.Frag} {H:Hp} {x:Addr} {m:MdT} {ys:List V} {o:HO} (hx:H x=some (.lst ys)) (h:MdB K H x m):MdB K (upd H x o) x m :=
 ⟨h.1.put hx,by rw [Qg h.2.2.1];exact h.2.1,h.2.2.1,h.2.2.2.mono fun _ _ z=>z.put hx⟩
theorem MdB.at {K:PySem.W.Frag} {H:Hp} {x:Addr} {m:MdT} (h:MdB K H x m):MdAt K H m:=⟨h.1,SqL.of h.2.1,h.2.2.2⟩
def Mb (own:List Str) (rs:List PNx) (ts:List Tm):Prop:=ts.length=rs.length∧∀ (j:Nat) r t,rs[j]?=some r→ts[j]?=some t→TF own r.2.2.2 3 t
structure MF (ks:List KdT) (own:List Str) (m:MdT):Prop where
 rf:Mb own (Qy ks m.2.1) m.2.2.2.2
 kd:m.2.1 ∈ ks.map fun k=>k.2.1
theorem UT {ks:List KdT} (ok:WoodOk ks) {k:KdT} (hk:k ∈ ks):Qy ks k.2.1=k.2.2.2∧ks.find? (fun x=>decide (x.2.1=k.2.1))=some k:=by
 have hf:ks.find? (fun x=>decide (x.2.1=k.2.1))=some k:=by
  obtain ⟨i,hi,e⟩:=List.getElem_of_mem hk
  refine UB (i:=i) (by rw [List.getElem?_eq_getElem hi,e]) (24:) fun j y hj hy=>decide_eq_false fun z=>?_
  have h1:=List.pairwise_iff_getElem.mp ok.nd j i (29:) (29:) hj
  rw [List.getElem_map,List.getElem_map,e,(List.getElem?_eq_some_iff.mp hy).2] at h1
  exact h1 z
 exact ⟨by unfold Qy;rw [hf];rfl,hf⟩
def Y0 (K:PySem.W.Frag):Sp:=fun vs H Q _=>∃ (a:Addr) (cs:List Int) (lw ln:Addr) (ks:List KdT) (ns:List Str),vs=[.ref a,.ref lw,.ref ln]∧SqL K H a (cs.map V.int)∧WoodAt K H lw ks∧WF ks∧SqL K H ln (ns.map V.str)∧ns.length=8∧(∀ x ∈ ns,PyData.strOk x=true) ∧
 ∀ (p lm:Addr) (v:V) (H':Hp) (ms:List MdT) (t:Tm) (k0:KdT),Same H H'→SqT K H' p [.ref lw,v,.ref lm]→H' lm=some (.lst (47:))→(∀ m ∈ ms,MdB K H' lm m∧MF ks (mks (mds ms)) m)→0 < ms.length→ms.length≤4→ks[0]?=some k0→TmV K H' v t→TF (mks (mds ms)) [k0.2.1] 3 t→Q (.ref p) H'
abbrev P9:List Str:=["_law_script", "_law_wood_here", "_law_names_here", "_law_kinds", "_law_number", "_law_owners", "_law_modes", "_law_used", "_law_kind", "_law_rules", "_law_row", "_law_calls_here", "_law_start"]
section
variable {P:Program} {w:World} {K:PySem.W.Frag} {mg:Str→Option Value} {base:Heap} {f:Addr} {fd:FuncData}
theorem QR:FnScope P9 ["_law_script", "_law_wood_here", "_law_names_here"] (defScope UR):=(1:)
theorem Vf (F:Fun K "_law_turning" "_law_turning" UR f fd) (G:Gm mg) (RC:Fn P w K mg base 1 "_law_cell_at" ["_law_script", "_law_k"] (Xk K)) (RM:Fn P w K mg base 1 "_law_mixed" ["_law_cell", "_law_k"] Q8) (RL:Fn P w K mg base 1 "_law_calls" ["_law_branches", "_law_owners"] (Xn K)) (RT:Fn P w K mg base 4 "_law_term" Ji (Yy K 3)) :
 FnOk P w K mg base CX0 5 f fd ["_law_script", "_law_wood_here", "_law_names_here"] (Y0 K):=by
 refine F.ok QR (8:) (4:)
 ·obtain ⟨a,cs,lw,ln,ks,ns,rfl,_⟩:=h
  rfl
 obtain ⟨a,cs,lw,ln,ks,ns,rfl,hS,hW,hWF,hln,hn8,hnok,q⟩:=h
 refine ⟨_,(Qe (Qn (i:=3) QR.nd rfl (Or.inr rfl) (QP (33:) rfl (QT (pv 1)) (Wp (33:) rfl) (fun _ _ _ _=>Q2) (fun _ _ _ _=>pv 0)))
  (Qe (Qn (i:=4) QR.nd rfl (Or.inr rfl) (Qq RC hr (Qa (pv 0) (Qa (Qd) Qc))))
  (Qe (Qn (i:=5) QR.nd rfl (12:) (Ql VA (QF (Qa (Qj Qm (pv 3) Qd (2:)) Qc)) (QP (CompG.many (xs:=["_law_i"]) (caps:=["_law_kinds", "_law_number"]) (cap:=[3,4]) (cs:=[_,_]) rfl rfl (0:) (0:) (0:) (0:) (0:) (0:) rfl rfl rfl) rfl (QX rfl G.rng (Qa (Ql Qs (pv 4) Qd) Qc)) (Zo (CompG.many (xs:=["_law_i"]) (caps:=["_law_kinds", "_law_number"]) (cap:=[3,4]) (cs:=[_,_]) rfl rfl (0:) (0:) (0:) (0:) (0:) (0:) rfl rfl rfl)) (fun _ _ _ _=>Q2) (fun _ _ _ _=>Qj (r:=Xx K) Qm (pv 1) (Ql (r:=rI (fun _ j=>0 < j) fun i j=>.int (i % j)) Qs (Qq RM hr (Qa (pv 2) (Qa (pv 0) Qc))) (Qr (r:=Ov K) Qo rfl G.len PySem.boot_len (56:))) (2:)))))
  (Qe (Qn (i:=6) QR.nd rfl (12:) (QF Qc))
  (Qe (Qn (i:=7) QR.nd rfl (12:) Qd)
  (Qe (QU PassesOwn.never rfl (QT (pv 5)) (QC (i:=8) QR.nd rfl (12:)) (Qe (Qn (i:=9) QR.nd rfl (12:) (QF Qc))
  (Qe (QU PassesOwn.never rfl (QT (Yl (Yw hr) (Qx (Zf rfl) rfl G.dct PyProof.Rows.boot_dict (56:)) (pv 8) (2:))) (QC (i:=10) QR.nd rfl (12:)) (Qe (Qn (i:=11) QR.nd rfl (12:) (Qq RL hr (Qa (Qj Qk (pv 10) Qd (2:)) (Qa (pv 5) Qc))))
  (Qe (QI (Zk PySem.F.plainAttrs_list PySem.F.slot_list_append PySem.F.type_list_append QY (pv 9) (Qa (Qq RT hr (Qa (Qq RC hr (Qa (pv 0) (Qa (pv 7) Qc))) (Qa (Qd) (Qa (Qd) (Qa (pv 11) (Qa (pv 2) (Qa (ZK) Qc))))))) Qc)))
  (Qh (Qn (i:=7) QR.nd rfl (12:) (Ql QK (pv 7) Qd))))))
  (Qh (QI (Zk PySem.F.plainAttrs_list PySem.F.slot_list_append PySem.F.type_list_append QY (pv 6) (Qa ((Qz (Qa (pv 8) (Qa (pv 9) Qc)))) Qc)))))))
  (Qe (Qn (i:=12) QR.nd rfl (12:) (Qq RT hr (Qa (Qq RC hr (Qa (pv 0) (Qa (Qd) Qc))) (Qa (Qd) (Qa (Qd) (Qa (Qq RL hr (Qa ((QF (Qa (Qj Qm (pv 3) Qd (2:)) Qc))) (Qa (pv 5) Qc))) (Qa (pv 2) (Qa (ZK) Qc))))))))
  (Qh (Qp (Qz (Qa (pv 1) (Qa (pv 12) (Qa (pv 6) Qc))))))))))))),?_⟩
 have hkl:=hWF.l3
 have hkp:=hWF.ne
 obtain ⟨kn,hkn⟩ : ∃ kn,kn=ks.map fun k=>k.2.1:=(54:)
 have hknl:kn.length=ks.length:=by rw [hkn,List.length_map]
 refine ⟨_,rfl,lw,rfl,⟨_,hW.1⟩,fun lk hlk=>?_⟩
 refine Xp (K:=K) (xs:=ks.map fun k=>V.ref k.1) (cs:=[]) (tt:=fun _ H Q=>Q true H) (te:=Zi 0) (fun j ys H'=>ys=(kn.take j).map V.str∧H' lk=some (.lst ys)∧Same H H')
  ⟨rfl,Qb,Qf hlk _⟩ ?_ ?_ ?_
 ·rintro j ys H' _ ⟨_,_,g⟩
  exact (hW.same g).1
 ·rintro j x ys H' hj hx ⟨rfl,hy,g⟩
  have hjk:j < ks.length:=by simpa using hj
  obtain rfl:x=.ref ks[j].1:=by
   rw [List.getElem?_map,List.getElem?_eq_getElem hjk] at hx
   exact (Option.some.inj hx).symm
  refine ⟨ks[j].1,_,_,rfl,((hW.same g).2 _ (List.getElem_mem hjk)).1,QZ ⟨_,rfl,QB hj hy (by rw [List.length_map,List.length_take];lia) ⟨?_,Qb,fun z u e=>?_⟩⟩⟩
  ·have ekn:kn[j]?=some ks[j].2.1:=by rw [hkn,List.getElem?_map,List.getElem?_eq_getElem hjk];rfl
   rw [List.take_add_one,ekn];simp
  ·rw [Qg (Qi e hlk)];exact g _ _ e
 rintro ys H1 ⟨rfl,hlk1,g1⟩
 rw [List.length_map,List.take_of_length_le (10:)] at hlk1
 have hkm:(kn.map V.str).length=kn.length:=List.length_map ..
 refine ⟨_,rfl,a,cs,3,rfl,by decide,g1.seq hS,fun nu=>?_⟩
 have hk0l:0 < kn.length:=by lia
 have hat0:atI (kn.map V.str) 0=some (.str kn[0]):=Qv (j:=0) (by rw [List.getElem?_map,List.getElem?_eq_getElem hk0l];rfl)
 refine ⟨_,rfl,lk,_,0,_,rfl,rfl,SqL.of hlk1,hat0,(45:),fun l1 hl1=>?_⟩
 have k1:=Qf hl1 (.lst [.str kn[0]])
 have q0:0≤nu % 4:=Int.emod_nonneg _ (27:)
 have q1:nu % 4 < 4:=Int.emod_lt_of_pos _ (27:)
 refine ⟨_,rfl,_,_,rfl,rfl,(by show (0:Int) < 4;decide),_,rfl,by lia,by lia,fun l2 hl2=>?_⟩
 dsimp only
 obtain ⟨mo,hmo⟩ : ∃ mo:Nat,nu % 4=(mo:Int):=⟨(nu % 4).toNat,by lia⟩
 rw [hmo,Int.toNat_natCast]
 refine ZI (lo:=0) (n:=mo) (cs:=[some (.ref lk),some (.int nu)]) (tt:=fun _ H Q=>Q true H) (fun j ys H'=>∃ ss:List Str,ys=ss.map V.str∧ss.length=j∧(∀ x ∈ ss,x ∈ kn)∧H' l2=some (.lst ys)∧Same (upd H1 l1 (.lst [.str kn[0]])) H')
  ⟨[],rfl,rfl,fun x hx=>(nomatch hx),Qb,Qf hl2 _⟩ ?_ ?_
 ·rintro j ys H2 hj ⟨ss,rfl,hsl,hsk,hy,g2⟩
  have hlk2:=g2 _ _ (k1 _ _ hlk1)
  refine QZ ⟨_,rfl,_,rfl,_,rfl,nu,_,rfl,by lia,by lia,fun z z0 z1=>⟨_,rfl,lk,_,rfl,.inl (SqL.of hlk2),_,_,rfl,rfl,(by rw [hkm];lia),?_⟩⟩
  obtain ⟨y,hyn,hat⟩:=Zx (xs:=kn.map V.str) (k:=((kn.map V.str).length:Int)) rfl (by rw [hkm];lia) z
  obtain ⟨x,hx,rfl⟩:=List.mem_map.mp hyn
  refine ⟨lk,_,_,_,rfl,rfl,SqL.of hlk2,hat,?_⟩
  refine QB hj hy (29:) ⟨ss ++ [x],by simp,by simp [hsl],fun x' hx'=>?_,Qb,fun z u e=>?_⟩
  ·rcases List.mem_append.mp hx' with hx' | hx'
   ·exact hsk x' hx'
   ·have:x'=x:=by simpa using hx'
    rw [this];exact hx
  ·rw [Qg (Qi e hl2)];exact g2 _ _ e
 rintro ys H2 ⟨ss,rfl,hsl,hsk,hy,g2⟩
 refine ⟨l1,l2,_,_,rfl,rfl,SqL.of (g2 _ _ Qb),SqL.of hy,by rw [List.length_map,QO];simp only [List.length_singleton];lia,fun lo hlo=>?_⟩
 obtain ⟨own,hown⟩ : ∃ own,own=kn[0] :: ss:=(54:)
 have k3:=Qf hlo (.lst ([.str kn[0]] ++ ss.map V.str))
 have g3:=g1.trans (k1.trans (g2.trans k3))
 have hlo3:upd H2 lo (.lst ([.str kn[0]] ++ ss.map V.str)) lo=some (.lst (own.map V.str)):=by rw [hown];exact Qb
 have hlk3:=(k1.trans (g2.trans k3)) _ _ hlk1
 generalize upd H2 lo (.lst ([.str kn[0]] ++ ss.map V.str))=H3 at g3 hlo3 hlk3
 have hol:own.length=mo + 1:=by rw [hown,List.length_cons,hsl]
 have hok:∀ x ∈ own,x ∈ kn:=fun x hx=>by
  rw [hown] at hx
  rcases List.mem_cons.mp hx with rfl | hx
  ·exact List.getElem_mem hk0l
  ·exact hsk x hx
 clear hy g2 hlo hl1 hl2 k1 k3
 refine ⟨(15:),fun lm hlm=>?_⟩
 have k4:=Qf hlm (.lst [])
 refine ⟨_,rfl,lo,rfl,⟨_,SqL.of (k4 _ _ hlo3)⟩,?_⟩
 refine ZF (K:=K) (xs:=own.map V.str) (fun i σ H'=>∃ (c8 c9 c10 c11:Option V) (used:Nat) (ms:List MdT),σ=[some (.ref a),some (.ref lw),some (.ref ln),some (.ref lk),some (.int nu),some (.ref lo),some (.ref lm),some (.int (used:Int)),c8,c9,c10,c11,none]∧Same H3 H'∧H' lm=some (.lst (47:))∧(∀ m ∈ ms,MdB K H' lm m∧MF ks own m)∧(ms.map fun m=>m.2.1)=own.take i)
  ⟨none,none,none,none,4,[],rfl,k4,Qb,fun m hm=>(nomatch hm),rfl⟩ ?_ ?_ ?_
 ·rintro i σ H' _ ⟨_,_,_,_,_,_,_,g,_⟩
  exact SqL.of (g _ _ hlo3)
 ·rintro i x σ H4 hx ⟨c8,c9,c10,c11,used,ms,rfl,g4,hlm4,hms,hmk⟩
  have hi:i < own.length:=by
   have:=(List.getElem?_eq_some_iff.mp hx).1
   simpa using this
  obtain rfl:x=.str own[i]:=by
   rw [List.getElem?_map,List.getElem?_eq_getElem hi] at hx
   exact (Option.some.inj hx).symm
  have hmsl:ms.length=i:=by
   have:=congrArg List.length hmk
   rw [List.length_map,List.length_take] at this
   lia
  have hoi:=hok _ (List.getElem_mem hi)
  rw [hkn] at hoi
  obtain ⟨kd,hkd,ekd⟩:=List.mem_map.mp hoi
  obtain ⟨erow,hfd⟩:=UT hWF.ok hkd
  have g34:=g3.trans g4
  refine ⟨(15:),fun lr hlr=>?_⟩
  have k5:=Qf hlr (.lst [])
  have hmr:lm≠lr:=fun z=>by rw [← z,hlm4] at hlr;cases hlr
  have hW5:=hW.same (g34.trans k5)
  refine ⟨_,rfl,lw,wts ks,rfl,wdA hW5,wdB hW5,wdC hWF.ok,wdD hWF.ok,fun d hd=>⟨_,rfl,d,.ref kd.2.2.1,rfl,Xh Qb (by rw [← ekd];exact hfd),kd.2.2.1,rfl,?_⟩⟩
  have k6:=Qf hd (.dK (wkv ks))
  have k56:=k5.trans k6
  have hRk:∀ H',Same H4 H'→RowsL K H' kd.2.2.1 kd.2.2.2:=fun H' g=>((hW.same (g34.trans g)).2 kd hkd).2
  refine ⟨⟨_,(hRk _ k56).1⟩,?_⟩
  refine ZF (K:=K) (xs:=kd.2.2.2.map fun t=>V.ref t.1) (fun j σ H'=>∃ (c10 c11:Option V) (used:Nat) (us:List V) (ts:List Tm),σ=[some (.ref a),some (.ref lw),some (.ref ln),some (.ref lk),some (.int nu),some (.ref lo),some (.ref lm),some (.int (used:Int)),some (.str own[i]),some (.ref lr),c10,c11,none]∧Same H4 H'∧H' lr=some (.lst us)∧TmAll K H' us ts∧ts.length=j∧∀ (n:Nat) r t,kd.2.2.2[n]?=some r→ts[n]?=some t→TF own r.2.2.2 3 t)
   ⟨_,_,used,[],[],rfl,k56,k6 _ _ Qb,.nil,rfl,fun n r t _ h=>by simp at h⟩ ?_ ?_ ?_
  ·rintro j σ H' _ ⟨_,_,_,_,_,_,g,_⟩
   exact (hRk _ g).1
  ·rintro j x σ H5 hx ⟨c10,c11,used,us,ts,rfl,g5,hlr5,hts,htl,hfit⟩
   have hj:j < kd.2.2.2.length:=by
    have:=(List.getElem?_eq_some_iff.mp hx).1
    simpa using this
   obtain rfl:x=.ref kd.2.2.2[j].1:=by
    rw [List.getElem?_map,List.getElem?_eq_getElem hj] at hx
    exact (Option.some.inj hx).symm
   have hrm:=List.getElem_mem hj
   have hRA:=(hRk _ g5).2 _ hrm
   have hkf:=hWF.kf kd hkd
   have h10:=hkf.ok.len
   have hul:=hts.length
   refine ⟨_,rfl,_,_,1,_,rfl,rfl,hRA.1,rfl,_,rfl,kd.2.2.2[j].2.2.1,lo,_,own,rfl,.inl hRA.2,SqL.of (g5 _ _ (g4 _ _ hlo3)),by have:=hkf.w3 _ hrm;lia,by lia,fun lc H6 cts g6 hlc hcts hcf hcl=>?_⟩
   have g36:=g34.trans (g5.trans g6)
   refine ⟨_,rfl,.inl ⟨rfl,_,SqL.of (g6 _ _ hlr5)⟩,_,rfl,_,rfl,a,cs,_,rfl,by lia,g36.seq hS,fun cc=>⟨_,rfl,_,rfl,cc,0,2,lc,ln,true,cts,ns,own,kd.2.2.2[j].2.2.2,rfl,by lia,rfl,by decide,by decide,SqL.of hlc,hcts,hcf,hcl,g36.seq hln,hn8,hnok,fun v H7 t g7 hv ht=>?_⟩⟩
   have hlr7:=g7 _ _ (g6 _ _ hlr5)
   refine ⟨lr,us,v,rfl,rfl,hlr7,by rw [QO];lia,?_⟩
   refine ⟨_,rfl,_,_,rfl,rfl,_,_,used + 1,us ++ [v],ts ++ [t],rfl,fun z u e=>?_,Qb,TmAll.append (hts.mono fun _ _ h=>((g6.trans g7).seqT h).put hlr7) (.cons (hv.mono fun _ _ h=>h.put hlr7) .nil),by rw [List.length_append,List.length_singleton,htl],fun n r t' hr' ht'=>?_⟩
   ·rw [Qg (Qi e hlr)];exact g7 _ _ (g6 _ _ (g5 _ _ e))
   ·by_cases hn:n < j
    ·rw [List.getElem?_append_left (10:)] at ht'
     exact hfit n r t' hr' ht'
    ·have hnj:n=j:=by
      have:=(List.getElem?_eq_some_iff.mp ht').1
      rw [List.length_append,List.length_singleton] at this
      lia
     rw [List.getElem?_append_right (10:),htl,hnj,Nat.sub_self] at ht'
     obtain rfl:=Option.some.inj ht'
     rw [hnj,List.getElem?_eq_getElem hj] at hr'
     obtain rfl:=Option.some.inj hr'
     exact ht
  ·rintro σ H5 ⟨c10,c11,used,us,ts,rfl,g5,hlr5,hts,htl,hfit⟩
   rw [List.length_map] at htl
   have hlm5:=g5 _ _ hlm4
   refine ⟨_,rfl,.inl ⟨rfl,_,SqL.of hlm5⟩,_,rfl,_,rfl,(44:),fun pm hpm=>?_⟩
   have k7:=Qf hpm (.tup [.str own[i],.ref lr])
   have hlm6:=k7 _ _ hlm5
   refine ⟨lm,_,_,rfl,rfl,hlm6,by rw [List.length_map,QO];lia,?_⟩
   refine ⟨_,_,_,_,used,ms ++ [(pm,own[i],lr,us,ts)],rfl,fun z u e=>?_,by rw [Qb];simp,fun m hm=>?_,?_⟩
   ·rw [Qg (Qi e hlm)];exact k7 _ _ (g5 _ _ (g4 _ _ e))
   ·rcases List.mem_append.mp hm with hm | hm
    ·exact ⟨MdB.put hlm6 ((hms m hm).1.same (g5.trans k7)),(hms m hm).2⟩
    ·have:m=(pm,own[i],lr,us,ts):=by simpa using hm
     rw [this]
     refine ⟨MdB.put hlm6 ⟨SqT.of Qb,k7 _ _ hlr5,Ne.symm hmr,hts.mono fun _ _=>k7.seqT⟩,⟨⟨?_,fun j r t h1 h2=>?_⟩,hoi⟩⟩
     ·show ts.length=(Qy ks own[i]).length
      rw [← ekd,erow];exact htl
     ·have h1':(Qy ks own[i])[j]?=some r:=h1
      rw [← ekd,erow] at h1'
      exact hfit j r t h1' h2
   ·rw [List.map_append,hmk,List.take_add_one,List.getElem?_eq_getElem hi];rfl
 rintro σ H4 ⟨c8,c9,c10,c11,used,ms,rfl,g4,hlm4,hms,hmk⟩
 rw [List.length_map,List.take_of_length_le (7:)] at hmk
 have emk:mks (mds ms)=own:=by
  rw [← hmk]
  show (ms.map MdT.md).map (·.1)=_
  rw [List.map_map];rfl
 have hmsl:ms.length=own.length:=by rw [← hmk,List.length_map]
 have g34:=g3.trans g4
 have hlk4:=g4 _ _ hlk3
 refine ⟨_,rfl,a,cs,2,rfl,by decide,g34.seq hS,fun cc=>⟨_,rfl,lk,_,0,_,rfl,rfl,SqL.of hlk4,hat0,(45:),fun lb hlb=>?_⟩⟩
 have k5:=Qf hlb (.lst [.str kn[0]])
 refine ⟨_,rfl,lb,lo,[kn[0]],own,rfl,.inr (SqL.of Qb),SqL.of (k5 _ _ (g4 _ _ hlo3)),by show 1≤4;decide,by lia,fun lc H6 cts g6 hlc hcts hcf hcl=>?_⟩
 have g36:=g34.trans (k5.trans g6)
 refine ⟨_,rfl,cc,0,2,lc,ln,false,cts,ns,own,[kn[0]],rfl,by lia,rfl,by decide,by decide,SqL.of hlc,hcts,hcf,hcl,g36.seq hln,hn8,hnok,fun v H7 t g7 hv ht=>?_⟩
 refine ⟨_,rfl,_,rfl,_,rfl,(21:),fun pt hpt=>?_⟩
 have k8:=Qf hpt (.tup [.ref lw,v,.ref lm])
 have g48:=k5.trans (g6.trans (g7.trans k8))
 have hk0:ks[0]?=some ks[0]:=List.getElem?_eq_getElem hkp
 have ekn0:kn[0]=ks[0].2.1:=by
  have e:kn[0]?=some ks[0].2.1:=by rw [hkn,List.getElem?_map,hk0];rfl
  rw [List.getElem?_eq_getElem hk0l] at e
  exact Option.some.inj e
 refine q pt lm v _ ms t ks[0] (g34.trans g48) (SqT.of Qb) (g48 _ _ hlm4) (fun m hm=>⟨(hms m hm).1.same g48,by rw [emk];exact (hms m hm).2⟩) (10:) (10:) hk0 (hv.mono fun _ _=>k8.seqT) ?_
 rw [emk,← ekn0];exact ht
end
end K25
namespace K25
open PySem L2 TM TT K9 K11
structure Nd where
 a:Addr
 kd:Str
 lv:Nat
 row:Option PNx
 mr:Int
 cl:Addr
 ch:List Nat
def So:Option PNx→V
 | none=>.non
 | some r=>.ref r.1
def ndV (n:Nd):List V:=[.str n.kd,.int (n.lv:Int),So n.row,.int n.mr,.ref n.cl]
abbrev NI (bs:List Nat):List V:=bs.map fun (b:Nat)=>V.int (b:Int)
abbrev NR (ns:List Nd):List V:=ns.map fun n=>V.ref n.a
structure GH (H1 H:Hp) (ln lb:Addr) (ns:List Nd) (bare:List Nat):Prop where
 sm:Same H1 H
 hn:H ln=some (.lst (NR ns))
 hb:H lb=some (.lst (NI bare))
 ha:∀ (i:Nat) n,ns[i]?=some n→H n.a=some (.lst (ndV n))
 hc:∀ (i:Nat) n,ns[i]?=some n→H n.cl=some (.lst (NI n.ch))
 dd:∀ (i j:Nat) n m,ns[i]?=some n→ns[j]?=some m→i≠j→n.a≠m.a∧n.cl≠m.cl
 dc:∀ (i j:Nat) n m,ns[i]?=some n→ns[j]?=some m→n.a≠m.cl
 dl:∀ (i:Nat) n,ns[i]?=some n→n.a≠ln∧n.a≠lb∧n.cl≠ln∧n.cl≠lb
 fr:∀ (i:Nat) n,ns[i]?=some n→H1 n.a=none∧H1 n.cl=none
 ln1:H1 ln=none
 lb1:H1 lb=none
 lnb:ln≠lb
theorem U4 {α:Type} {l:List α} {i:Nat} {x:α} (h:l[i]?=some x):l.set i x=l:=by
 apply List.ext_getElem?
 intro j
 rw [List.getElem?_set]
 by_cases e:i=j
 ·subst e
  rw [if_pos rfl,if_pos (List.getElem?_eq_some_iff.mp h).1,h]
 ·rw [if_neg e]
theorem QH {α:Type} {l:List α} {i j:Nat} {x y:α} (h:(l.set i x)[j]?=some y):(j=i∧y=x∧i < l.length)∨(j≠i∧l[j]?=some y):=by
 rw [List.getElem?_set] at h
 by_cases e:i=j
 ·subst e
  rw [if_pos rfl] at h
  by_cases hl:i < l.length
  ·rw [if_pos hl] at h
   exact .inl ⟨rfl,(Option.some.inj h).symm,hl⟩
  ·rw [if_neg hl] at h;cases h
 ·rw [if_neg e] at h
  exact .inr ⟨Ne.symm e,h⟩
theorem QW {α:Type} {l:List α} {j:Nat} {x y:α} (h:(l ++ [x])[j]?=some y):(j=l.length∧y=x)∨(j < l.length∧l[j]?=some y):=by
 by_cases hj:j < l.length
 ·rw [List.getElem?_append_left hj] at h
  exact .inr ⟨hj,h⟩
 ·rw [List.getElem?_append_right (10:)] at h
  have hz:j - l.length=0:=by
   have:=(List.getElem?_eq_some_iff.mp h).1
   simp at this
   lia
  rw [hz] at h
  exact .inl ⟨by lia,by simpa using h.symm⟩
section
variable {H1 H:Hp} {ln lb:Addr} {ns:List Nd} {bare:List Nat}
theorem GH.same {H':Hp} (g:Same H H') (h:GH H1 H ln lb ns bare):GH H1 H' ln lb ns bare :=
 ⟨h.sm.trans g,g _ _ h.hn,g _ _ h.hb,fun i n e=>g _ _ (h.ha i n e),fun i n e=>g _ _ (h.hc i n e),h.dd,h.dc,h.dl,h.fr,h.ln1,h.lb1,h.lnb⟩
theorem GH.setA (h:GH H1 H ln lb ns bare) {i:Nat} {n:Nd} (e:ns[i]?=some n) (n':Nd) (ea:n'.a=n.a) (ec:n'.cl=n.cl) (eh:n'.ch=n.ch):GH H1 (upd H n.a (.lst (ndV n'))) ln lb (ns.set i n') bare:=by
 obtain ⟨d1,d2,d3,d4⟩:=h.dl i n e
 refine ⟨fun x u z=>?_,?_,?_,fun j m hm=>?_,fun j m hm=>?_,fun j k m p hm hp hjk=>?_,fun j k m p hm hp=>?_,fun j m hm=>?_,fun j m hm=>?_,h.ln1,h.lb1,h.lnb⟩
 ·rw [Qg (Qi z (h.fr i n e).1)];exact h.sm _ _ z
 ·rw [Qg (Ne.symm d1),h.hn]
  congr 2
  unfold NR
  rw [List.map_set,ea]
  refine (U4 (by rw [List.getElem?_map,e];rfl)).symm
 ·rw [Qg (Ne.symm d2)];exact h.hb
 ·rcases QH hm with ⟨rfl,rfl,_⟩ | ⟨hj,hm2⟩
  ·rw [ea];exact Qb
  ·rw [Qg (h.dd j i m n hm2 e hj).1];exact h.ha j m hm2
 ·rcases QH hm with ⟨rfl,rfl,_⟩ | ⟨hj,hm2⟩
  ·rw [ec,eh,Qg (Ne.symm (h.dc j j n n e e))];exact h.hc _ n e
  ·rw [Qg (Ne.symm (h.dc i j n m e hm2))];exact h.hc j m hm2
 ·rcases QH hm with ⟨rfl,rfl,_⟩ | ⟨hj,hm2⟩
  ·rcases QH hp with ⟨rfl,rfl,_⟩ | ⟨hk,hp⟩
   ·exact absurd rfl hjk
   ·rw [ea,ec];exact h.dd _ k n p e hp hjk
  ·rcases QH hp with ⟨rfl,rfl,_⟩ | ⟨hk,hp⟩
   ·rw [ea,ec];exact h.dd j _ m n hm2 e hjk
   ·exact h.dd j k m p hm2 hp hjk
 ·rcases QH hm with ⟨rfl,rfl,_⟩ | ⟨hj,hm2⟩
  ·rcases QH hp with ⟨rfl,rfl,_⟩ | ⟨hk,hp⟩
   ·rw [ea,ec];exact h.dc _ _ n n e e
   ·rw [ea];exact h.dc _ k n p e hp
  ·rcases QH hp with ⟨rfl,rfl,_⟩ | ⟨hk,hp⟩
   ·rw [ec];exact h.dc j _ m n hm2 e
   ·exact h.dc j k m p hm2 hp
 ·rcases QH hm with ⟨rfl,rfl,_⟩ | ⟨hj,hm2⟩
  ·rw [ea,ec];exact h.dl _ n e
  ·exact h.dl j m hm2
 ·rcases QH hm with ⟨rfl,rfl,_⟩ | ⟨hj,hm2⟩
  ·rw [ea,ec];exact h.fr _ n e
  ·exact h.fr j m hm2
theorem GH.setC (h:GH H1 H ln lb ns bare) {i:Nat} {n:Nd} (e:ns[i]?=some n) (ch:List Nat):GH H1 (upd H n.cl (.lst (NI ch))) ln lb (ns.set i { n with ch:=ch }) bare:=by
 obtain ⟨d1,d2,d3,d4⟩:=h.dl i n e
 refine ⟨fun x u z=>?_,?_,?_,fun j m hm=>?_,fun j m hm=>?_,fun j k m p hm hp hjk=>?_,fun j k m p hm hp=>?_,fun j m hm=>?_,fun j m hm=>?_,h.ln1,h.lb1,h.lnb⟩
 ·rw [Qg (Qi z (h.fr i n e).2)];exact h.sm _ _ z
 ·rw [Qg (Ne.symm d3),h.hn]
  congr 2
  unfold NR
  rw [List.map_set]
  refine (U4 (by rw [List.getElem?_map,e];rfl)).symm
 ·rw [Qg (Ne.symm d4)];exact h.hb
 ·rcases QH hm with ⟨rfl,rfl,_⟩ | ⟨hj,hm2⟩
  ·rw [Qg (h.dc _ _ n n e e)];exact h.ha _ n e
  ·rw [Qg (h.dc j i m n hm2 e)];exact h.ha j m hm2
 ·rcases QH hm with ⟨rfl,rfl,_⟩ | ⟨hj,hm2⟩
  ·exact Qb
  ·rw [Qg (h.dd j i m n hm2 e hj).2];exact h.hc j m hm2
 ·rcases QH hm with ⟨rfl,rfl,_⟩ | ⟨hj,hm2⟩
  ·rcases QH hp with ⟨rfl,rfl,_⟩ | ⟨hk,hp⟩
   ·exact absurd rfl hjk
   ·exact h.dd _ k n p e hp hjk
  ·rcases QH hp with ⟨rfl,rfl,_⟩ | ⟨hk,hp⟩
   ·exact h.dd j _ m n hm2 e hjk
   ·exact h.dd j k m p hm2 hp hjk
 ·rcases QH hm with ⟨rfl,rfl,_⟩ | ⟨hj,hm2⟩
  ·rcases QH hp with ⟨rfl,rfl,_⟩ | ⟨hk,hp⟩
   ·exact h.dc _ _ n n e e
   ·exact h.dc _ k n p e hp
  ·rcases QH hp with ⟨rfl,rfl,_⟩ | ⟨hk,hp⟩
   ·exact h.dc j _ m n hm2 e
   ·exact h.dc j k m p hm2 hp
 ·rcases QH hm with ⟨rfl,rfl,_⟩ | ⟨hj,hm2⟩
  ·exact h.dl _ n e
  ·exact h.dl j m hm2
 ·rcases QH hm with ⟨rfl,rfl,_⟩ | ⟨hj,hm2⟩
  ·exact h.fr _ n e
  ·exact h.fr j m hm2
theorem GH.setB (h:GH H1 H ln lb ns bare) (bare':List Nat):GH H1 (upd H lb (.lst (NI bare'))) ln lb ns bare':=by
 refine ⟨fun x u z=>?_,?_,Qb,fun i n e=>?_,fun i n e=>?_,h.dd,h.dc,h.dl,h.fr,h.ln1,h.lb1,h.lnb⟩
 ·rw [Qg (Qi z h.lb1)];exact h.sm _ _ z
 ·rw [Qg h.lnb];exact h.hn
 ·rw [Qg (h.dl i n e).2.1];exact h.ha i n e
 ·rw [Qg (h.dl i n e).2.2.2];exact h.hc i n e
theorem GH.add {H2:Hp} (h:GH H1 H ln lb ns bare) (g:Same H H2) (m:Nd) (ma:H m.a=none) (mc:H m.cl=none) (mm:m.a≠m.cl) (h1:H2 m.a=some (.lst (ndV m))) (h2:H2 m.cl=some (.lst (NI m.ch))):GH H1 (upd H2 ln (.lst (NR ns ++ [.ref m.a]))) ln lb (ns ++ [m]) bare:=by
 have k:=h.same g
 have neA:∀ {x:Addr} {o:HO},H x=some o→x≠m.a:=fun e z=>by rw [z,ma] at e;cases e
 have neC:∀ {x:Addr} {o:HO},H x=some o→x≠m.cl:=fun e z=>by rw [z,mc] at e;cases e
 have ln_a:=neA h.hn
 have ln_c:=neC h.hn
 have lb_a:=neA h.hb
 have lb_c:=neC h.hb
 refine ⟨fun x u z=>?_,by rw [Qb];simp,?_,fun j n e=>?_,fun j n e=>?_,fun i j n p hn hp hij=>?_,fun i j n p hn hp=>?_,fun j n e=>?_,fun j n e=>?_,h.ln1,h.lb1,h.lnb⟩
 ·rw [Qg (Qi z h.ln1)];exact k.sm _ _ z
 ·rw [Qg (Ne.symm h.lnb)];exact k.hb
 ·rcases QW e with ⟨_,rfl⟩ | ⟨_,e⟩
  ·rw [Qg (Ne.symm ln_a)];exact h1
  ·rw [Qg (h.dl j n e).1];exact k.ha j n e
 ·rcases QW e with ⟨_,rfl⟩ | ⟨_,e⟩
  ·rw [Qg (Ne.symm ln_c)];exact h2
  ·rw [Qg (h.dl j n e).2.2.1];exact k.hc j n e
 ·rcases QW hn with ⟨hi,rfl⟩ | ⟨hi,hn2⟩
  ·rcases QW hp with ⟨hj,rfl⟩ | ⟨hj,hp⟩
   ·lia
   ·exact ⟨Ne.symm (neA (h.ha j p hp)),Ne.symm (neC (h.hc j p hp))⟩
  ·rcases QW hp with ⟨hj,rfl⟩ | ⟨hj,hp⟩
   ·exact ⟨neA (h.ha i n hn2),neC (h.hc i n hn2)⟩
   ·exact h.dd i j n p hn2 hp hij
 ·rcases QW hn with ⟨hi,rfl⟩ | ⟨hi,hn2⟩
  ·rcases QW hp with ⟨hj,rfl⟩ | ⟨hj,hp⟩
   ·exact mm
   ·exact Ne.symm (neA (h.hc j p hp))
  ·rcases QW hp with ⟨hj,rfl⟩ | ⟨hj,hp⟩
   ·exact neC (h.ha i n hn2)
   ·exact h.dc i j n p hn2 hp
 ·rcases QW e with ⟨_,rfl⟩ | ⟨_,e⟩
  ·exact ⟨Ne.symm ln_a,Ne.symm lb_a,Ne.symm ln_c,Ne.symm lb_c⟩
  ·exact h.dl j n e
 ·rcases QW e with ⟨_,rfl⟩ | ⟨_,e⟩
  ·exact ⟨h.sm.free ma,h.sm.free mc⟩
  ·exact h.fr j n e
end
abbrev sg (ns:List Nd):List (Str × Nat):=ns.map fun n=>(n.kd,n.lv)
def Kid (s:List (Str × Nat)) (i:Nat) (n:Nd) (r:PNx):Prop:=∀ (j c:Nat),n.ch[j]?=some c→i < c∧∃ k,s[c]?=some (k,n.lv + 1)∧r.2.2.2[j]?=some k
structure NOk (ks:List KdT) (top:Nat) (s:List (Str × Nat)) (i:Nat) (n:Nd) (w:Nat):Prop where
 l1:1≤n.lv
 l2:n.lv≤top
 kd:n.kd ∈ ks.map fun k=>k.2.1
 no:n.row=none→n.ch=[]
 ro:∀ r,n.row=some r→r ∈ Qy ks n.kd∧n.ch.length=w∧Kid s i n r
def wOf (n:Nd):Nat:=match n.row with
 | none=>0
 | some r=>r.2.2.2.length
def AllOk (ks:List KdT) (top:Nat) (ns:List Nd):Prop:=∀ (i:Nat) n,ns[i]?=some n→NOk ks top (sg ns) i n (wOf n)
theorem Kid.mono {s s':List (Str × Nat)} {i:Nat} {n:Nd} {r:PNx} (h:Kid s i n r) (k:∀ (c:Nat) x,s[c]?=some x→s'[c]?=some x):Kid s' i n r:=fun j c e=>by
 obtain ⟨h1,kd,h2,h3⟩:=h j c e
 exact ⟨h1,kd,k _ _ h2,h3⟩
theorem NOk.mono {ks:List KdT} {top:Nat} {s s':List (Str × Nat)} {i:Nat} {n:Nd} {w:Nat} (h:NOk ks top s i n w) (k:∀ (c:Nat) x,s[c]?=some x→s'[c]?=some x):NOk ks top s' i n w :=
 ⟨h.l1,h.l2,h.kd,h.no,fun r e=>⟨(h.ro r e).1,(h.ro r e).2.1,(h.ro r e).2.2.mono k⟩⟩
theorem W6 {ns:List Nd} {i:Nat} {n n':Nd} (e:ns[i]?=some n) (e1:n'.kd=n.kd) (e2:n'.lv=n.lv):sg (ns.set i n')=sg ns:=by
 unfold sg
 rw [List.map_set,e1,e2]
 exact U4 (by rw [List.getElem?_map,e];rfl)
theorem Of {ns:List Nd} {m:Nd} (c:Nat) (x:Str × Nat) (h:(sg ns)[c]?=some x):(sg (ns ++ [m]))[c]?=some x:=by
 unfold sg at h ⊢
 rw [List.map_append,List.getElem?_append_left (List.getElem?_eq_some_iff.mp h).1]
 exact h
structure BOk (ns:List Nd) (bare:List Nat):Prop where
 nd:bare.Nodup
 no:∀ b ∈ bare,∃ n,ns[b]?=some n∧n.row=none
 bl:bare.length≤ns.length
end K25
namespace K25
open PySem L2 TM TT K9 K11
theorem AllOk.setM {ks:List KdT} {top:Nat} {ns:List Nd} {i:Nat} {n:Nd} (h:AllOk ks top ns) (e:ns[i]?=some n) (x:Int):AllOk ks top (ns.set i { n with mr:=x }):=by
 intro j m hm
 rw [W6 (n':={ n with mr:=x }) e rfl rfl]
 rcases QH hm with ⟨rfl,rfl,_⟩ | ⟨hj,hm⟩
 ·have k:=h j n e
  exact ⟨k.l1,k.l2,k.kd,k.no,k.ro⟩
 ·exact h j m hm
theorem BOk.setM {ns:List Nd} {bare:List Nat} {i:Nat} {n:Nd} (h:BOk ns bare) (e:ns[i]?=some n) (x:Int):BOk (ns.set i { n with mr:=x }) bare:=by
 refine ⟨h.nd,fun b hb=>?_,by rw [List.length_set];exact h.bl⟩
 obtain ⟨m,hm,hr⟩:=h.no b hb
 by_cases z:i=b
 ·subst z
  rw [e] at hm
  obtain rfl:=Option.some.inj hm
  refine ⟨{ n with mr:=x },?_,hr⟩
  rw [List.getElem?_set,if_pos rfl,if_pos (List.getElem?_eq_some_iff.mp e).1]
 ·exact ⟨m,by rw [List.getElem?_set,if_neg z];exact hm,hr⟩
theorem Y8 {ns:List Nd} {i:Nat} {n n':Nd} {k:Str} (e:ns[i]?=some n) (ek:n'.kd=n.kd) (h:∃ m,ns[0]?=some m∧m.kd=k):∃ m,(ns.set i n')[0]?=some m∧m.kd=k:=by
 obtain ⟨m,hm,hk⟩:=h
 by_cases z:i=0
 ·subst z
  rw [e] at hm
  obtain rfl:=Option.some.inj hm
  refine ⟨n',?_,ek.trans hk⟩
  rw [List.getElem?_set,if_pos rfl,if_pos (List.getElem?_eq_some_iff.mp e).1]
 ·exact ⟨m,by rw [List.getElem?_set,if_neg z];exact hm,hk⟩
theorem UC {ns:List Nd} {i:Nat} {n n':Nd} (e:ns[i]?=some n):(ns.set i n')[i]?=some n':=by
 rw [List.getElem?_set,if_pos rfl,if_pos (List.getElem?_eq_some_iff.mp e).1]
structure Mid (ks:List KdT) (top:Nat) (kn0:Str) (spot:Nat) (kd:Str) (lv:Nat) (r:PNx) (L j:Nat) (ns:List Nd) (bare:List Nat):Prop where
 len:ns.length=L + j
 sp:∃ n,ns[spot]?=some n∧n.row=some r∧n.kd=kd∧n.lv=lv∧NOk ks top (sg ns) spot n j
 ot:∀ (i:Nat) m,i≠spot→ns[i]?=some m→NOk ks top (sg ns) i m (wOf m)
 bk:BOk ns bare
 k0:∃ m,ns[0]?=some m∧m.kd=kn0
 sl:spot < L
variable {ks:List KdT} {top:Nat} {kn0:Str} {spot:Nat} {kd:Str} {lv:Nat} {r:PNx} {L j:Nat} {ns:List Nd} {bare:List Nat}
theorem Mid.start {n:Nd} (h:AllOk ks top ns) (b:BOk ns bare) (e:ns[spot]?=some n) (hr:n.row=none) (hb:spot ∉ bare) (hk:r ∈ Qy ks n.kd) (h0:∃ m,ns[0]?=some m∧m.kd=kn0):Mid ks top kn0 spot n.kd n.lv r ns.length 0 (ns.set spot { n with row:=some r }) bare:=by
 have k:=h spot n e
 have esg:sg (ns.set spot { n with row:=some r })=sg ns:=W6 e rfl rfl
 refine ⟨by rw [List.length_set];rfl,⟨_,UC e,rfl,rfl,rfl,?_⟩,fun i m hi hm=>?_,⟨b.nd,fun x hx=>?_,by rw [List.length_set];exact b.bl⟩,Y8 e rfl h0,(List.getElem?_eq_some_iff.mp e).1⟩
 ·rw [esg]
  refine ⟨k.l1,k.l2,k.kd,fun z=>(nomatch z),fun r' e'=>?_⟩
  obtain rfl:r=r':=Option.some.inj e'
  have hc:=k.no hr
  refine ⟨hk,by show n.ch.length=0;rw [hc];rfl,fun a c hac=>?_⟩
  have hac':n.ch[a]?=some c:=hac
  rw [hc] at hac'
  simp at hac'
 ·rw [esg]
  rcases QH hm with ⟨z,_,_⟩ | ⟨_,hm⟩
  ·exact absurd z hi
  ·exact h i m hm
 ·obtain ⟨m,hm,hmr⟩:=b.no x hx
  have hxs:spot≠x:=fun z=>hb (z ▸ hx)
  exact ⟨m,by rw [List.getElem?_set,if_neg hxs];exact hm,hmr⟩
theorem Mid.next {n m:Nd} {k:Str} (h:Mid ks top kn0 spot kd lv r L j ns bare) (e:ns[spot]?=some n) (ek:r.2.2.2[j]?=some k) (hl:lv + 1≤top) (hkk:k ∈ ks.map fun k=>k.2.1) (m1:m.kd=k) (m2:m.lv=lv + 1) (m3:m.row=none) (m4:m.ch=[]) :
 Mid ks top kn0 spot kd lv r L (j + 1) (ns.set spot { n with ch:=n.ch ++ [L + j] } ++ [m]) (bare ++ [L + j]):=by
 obtain ⟨n0,e0,hr,hkd,hlv,hn⟩:=h.sp
 rw [e] at e0
 obtain rfl:=Option.some.inj e0
 have hsl:=h.sl
 have hlen:=h.len
 have esg:sg (ns.set spot { n with ch:=n.ch ++ [L + j] })=sg ns:=W6 e rfl rfl
 have mono:∀ (c:Nat) x,(sg ns)[c]?=some x→(sg (ns.set spot { n with ch:=n.ch ++ [L + j] } ++ [m]))[c]?=some x:=fun c x hx=>Of c x (by rw [esg];exact hx)
 have hnew:(sg (ns.set spot { n with ch:=n.ch ++ [L + j] } ++ [m]))[L + j]?=some (k,lv + 1):=by
  unfold sg
  rw [List.map_append,List.getElem?_append_right (by rw [List.length_map,List.length_set];lia),List.length_map,List.length_set,hlen,Nat.sub_self]
  show some (m.kd,m.lv)=_
  rw [m1,m2]
 have hspl:spot < (ns.set spot { n with ch:=n.ch ++ [L + j] }).length:=by rw [List.length_set];lia
 refine ⟨by rw [List.length_append,List.length_set,List.length_singleton];lia,⟨{ n with ch:=n.ch ++ [L + j] },?_,hr,hkd,hlv,?_⟩,fun i m' hi hm'=>?_,⟨?_,fun x hx=>?_,by rw [List.length_append,List.length_append,List.length_set,List.length_singleton,List.length_singleton];exact Nat.add_le_add_right h.bk.bl 1⟩,?_,hsl⟩
 ·rw [List.getElem?_append_left hspl];exact UC e
 ·refine ⟨hn.l1,hn.l2,hn.kd,fun z=>?_,fun r' e'=>?_⟩
  ·have z':n.row=none:=z
   rw [hr] at z';cases z'
  ·have e'':n.row=some r':=e'
   obtain ⟨h1,h2,h3⟩:=hn.ro r' e''
   have er:r=r':=by rw [hr] at e'';exact Option.some.inj e''
   refine ⟨h1,by rw [List.length_append,List.length_singleton,h2],fun a c hac=>?_⟩
   rcases QW hac with ⟨ha,hc⟩ | ⟨ha,hac⟩
   ·rw [hc,ha,h2]
    exact ⟨by lia,k,by rw [hnew];show some (k,lv + 1)=some (k,n.lv + 1);rw [hlv],by rw [← er];exact ek⟩
   ·obtain ⟨i1,kk,i2,i3⟩:=h3 a c hac
    exact ⟨i1,kk,mono _ _ i2,i3⟩
 ·rcases QW hm' with ⟨hi2,rfl⟩ | ⟨hi2,hm'⟩
  ·refine ⟨by lia,by lia,by rw [m1];exact hkk,fun _=>m4,fun r' e'=>?_⟩
   rw [m3] at e';cases e'
  ·rcases QH hm' with ⟨z,_,_⟩ | ⟨_,hm'⟩
   ·exact absurd z hi
   ·exact (h.ot i m' hi hm').mono mono
 ·rw [List.nodup_append]
  refine ⟨h.bk.nd,by simp,fun a ha b hb=>?_⟩
  have:b=L + j:=by simpa using hb
  obtain ⟨q,hq,_⟩:=h.bk.no a ha
  have:=(List.getElem?_eq_some_iff.mp hq).1
  lia
 ·rcases List.mem_append.mp hx with hx | hx
  ·obtain ⟨q,hq,hqr⟩:=h.bk.no x hx
   have hxl:=(List.getElem?_eq_some_iff.mp hq).1
   have hxs:spot≠x:=fun z=>by
    subst z
    rw [e] at hq
    obtain rfl:=Option.some.inj hq
    rw [hr] at hqr;cases hqr
   refine ⟨q,?_,hqr⟩
   rw [List.getElem?_append_left (by rw [List.length_set];exact hxl),List.getElem?_set,if_neg hxs]
   exact hq
  ·have hx:x=L + j:=by simpa using hx
   refine ⟨m,?_,m3⟩
   rw [hx,List.getElem?_append_right (by rw [List.length_set];lia),List.length_set,hlen,Nat.sub_self]
   rfl
 ·obtain ⟨q,hq,hk⟩:=Y8 (n':={ n with ch:=n.ch ++ [L + j] }) e rfl h.k0
  exact ⟨q,by rw [List.getElem?_append_left (List.getElem?_eq_some_iff.mp hq).1];exact hq,hk⟩
theorem Mid.done (h:Mid ks top kn0 spot kd lv r L r.2.2.2.length ns bare):AllOk ks top ns:=by
 intro i m hm
 by_cases z:i=spot
 ·subst z
  obtain ⟨n,e,hr,_,_,hn⟩:=h.sp
  rw [e] at hm
  obtain rfl:=Option.some.inj hm
  have:wOf n=r.2.2.2.length:=by unfold wOf;rw [hr]
  rw [this];exact hn
 ·exact h.ot i m z hm
def Zz (r:PNx):PyData:=.tuple [.str r.2.1,.tuple (r.2.2.2.map .str)]
theorem Xm {K:PySem.W.Frag} {H:Hp}:∀ {rs:List PNx},(∀ t ∈ rs,RowAt K H t)→RdAll K H (rs.map fun t=>V.ref t.1) (rs.map Zz)
 | [],_=>.nil
 | t :: r,h=>.cons (.tup (h t List.mem_cons_self).1 (.cons (.str _) (.cons (.tup (h t List.mem_cons_self).2 (YO _)) .nil))) (Xm fun u hu=>h u (38:))
theorem UU:∀ {rs:List PNx},(∀ r ∈ rs,PyData.strOk r.2.1=true)→(∀ r ∈ rs,∀ x ∈ r.2.2.2,PyData.strOk x=true)→PyData.canLayAll0 (rs.map Zz)=true
 | [],_,_=>by simp [PyData.canLayAll0]
 | r :: rs,h1,h2=>by
  simp only [List.map_cons,PyData.canLayAll0,Zz,PyData.canLay0,h1 r List.mem_cons_self,Yc _ (h2 r List.mem_cons_self),Bool.and_self,Bool.true_and]
  exact UU (fun u hu=>h1 u (38:)) fun u hu=>h2 u (38:)
theorem X5 (ds:List PyData):PyData.eqv (.list ds) (.list [])=ds.isEmpty:=by
 cases ds <;> simp [PyData.eqv,PyData.eqvAll]
theorem XW (ds:List PyData):PyData.eqv (.tuple ds) (.tuple [])=ds.isEmpty:=by
 cases ds <;> simp [PyData.eqv,PyData.eqvAll]
theorem Rb (bs:List Nat):NI bs=(bs.map fun (b:Nat)=>(b:Int)).map V.int:=by
 unfold NI;rw [List.map_map];rfl
theorem JK {α β:Type} (f:α→β):∀ (l:List α) (k:Nat),(l.map f).eraseIdx k=(l.eraseIdx k).map f
 | [],k=>by simp
 | x :: r,0=>by simp
 | x :: r,k + 1=>by
  simp only [List.map_cons,List.eraseIdx_cons_succ]
  rw [JK f r k]
theorem NU {k n:Nat} (h:k < n):seqIndex? ((k:Nat):Int) n=some k:=by
 have:=PySem.StrLaws.seqIndex_nonneg (i:=((k:Nat):Int)) (n:=n) (10:) (10:)
 rwa [Int.toNat_natCast] at this
theorem Zl {α:Type} {x y:α} {i:Nat} (h:[x][i]?=some y):i=0∧y=x:=by
 cases i with
 | zero=>exact ⟨rfl,(Option.some.inj h).symm⟩
 | succ n=>simp at h
end K25
namespace K25
open PySem L2 TM TT K9 K11
def Xu (K:PySem.W.Frag):Sp:=fun vs H Q _=>∃ (lw lc:Addr) (ks:List KdT) (cs:List Int) (top:Nat) (k0:KdT),vs=[.ref lw,.ref lc,.int (top:Int)]∧WoodAt K H lw ks∧WF ks∧ks[0]?=some k0∧SqL K H lc (cs.map V.int)∧cs.length≤60∧1≤top∧top≤40 ∧
 ∀ (ln lb:Addr) (H1 H':Hp) (ns:List Nd) (bare:List Nat),Same H H1→GH H1 H' ln lb ns bare→AllOk ks top ns→0 < ns.length→ns.length≤200→(∃ n,ns[0]?=some n∧n.kd=k0.2.1)→Q (.ref ln) H'
abbrev OT:List Str:=["_law_wood_here", "_law_cells", "_law_top", "_law_rows", "_law_nodes", "_law_bare", "_law_cell", "_law_number", "_law_spot", "_law_full", "_law_kind"]
theorem Zq {ns:List Nd} {i:Nat} {n:Nd} (e:ns[i]?=some n):atI (NR ns) ((i:Nat):Int)=some (.ref n.a):=Qv (by rw [List.getElem?_map,e];rfl)
theorem Jt {ks:List KdT} {k:Str} (h:k ∈ ks.map fun k=>k.2.1) (ok:WoodOk ks):∃ kd ∈ ks,kd.2.1=k∧Qy ks k=kd.2.2.2∧ks.find? (fun x=>decide (x.2.1=k))=some kd:=by
 obtain ⟨kd,hkd,rfl⟩:=List.mem_map.mp h
 obtain ⟨e1,e2⟩:=UT ok hkd
 exact ⟨kd,hkd,rfl,e1,e2⟩
theorem Gk {l:List Nat} {i:Nat} {x b:Nat} (hn:l.Nodup) (hx:l[i]?=some x) (hb:b ∈ l.eraseIdx i):b ∈ l∧b≠x:=by
 refine ⟨List.mem_of_mem_eraseIdx hb,fun z=>?_⟩
 subst z
 obtain ⟨j,hj,e⟩:=List.getElem_of_mem hb
 rw [List.getElem_eraseIdx] at e
 obtain ⟨hi,ei⟩:=List.getElem?_eq_some_iff.mp hx
 split at e
 ·rename_i h
  have:=(List.getElem_inj hn).mp (e.trans ei.symm)
  lia
 ·rename_i h
  have:=(List.getElem_inj hn).mp (e.trans ei.symm)
  lia
section
variable {P:Program} {w:World} {K:PySem.W.Frag} {mg:Str→Option Value} {base:Heap} {f:Addr} {fd:FuncData}
theorem Zb:FnScope OT ["_law_wood_here", "_law_cells", "_law_top"] (defScope UW):=(1:)
theorem L6 (F:Fun K "_law_grown" "_law_grown" UW f fd) (G:Gm mg) (RM:Fn P w K mg base 1 "_law_mixed" ["_law_cell", "_law_k"] Q8) (RK:Fn P w K mg base 2 "_law_mark" ["_law_cell", "_law_number"] Ve):FnOk P w K mg base CX0 3 f fd ["_law_wood_here", "_law_cells", "_law_top"] (Xu K):=by
 refine F.ok Zb (8:) (4:)
 ·obtain ⟨lw,lc,ks,cs,top,k0,rfl,_⟩:=h
  rfl
 obtain ⟨lw,lc,ks,cs,top,k0,rfl,hW,hWF,hk0,hlc,hcs,ht1,ht20,q⟩:=h
 have room:∀ m:Nat,m≤64→(A.deeper (PyProof.Rows.envOfC "_law_grown" (defScope UW) s.heap.objs.size f cdv)).units + m < cLine:=fun m hm=>by have:=hr.units;lia
 refine ⟨_,(Qe (Qn (i:=3) Zb.nd rfl (12:) (Qx (Zf rfl) rfl G.dct PyProof.Rows.boot_dict (Qa (pv 0) Qc)))
  (Qe (Qn (i:=4) Zb.nd rfl (Or.inr rfl) (QF (Qa ((QF (Qa (Qj Qk (Qj Qm (pv 0) Qd (2:)) Qd (2:)) (Qa (Qd) (Qa (Y7) (Qa (Qd) (Qa (QF Qc) Qc))))))) Qc)))
  (Qe (Qn (i:=5) Zb.nd rfl (12:) (QF (Qa (Qd) Qc)))
  (Qe (QU PassesOwn.never rfl (QT (pv 1)) (QC (i:=6) Zb.nd rfl (12:)) (Qe (Qn (i:=7) Zb.nd rfl (12:) (Qq RM hr (Qa (pv 6) (Qa (Qd) Qc))))
  (Qe (Qn (i:=8) Zb.nd rfl (Or.inr rfl) (Ql Qs (pv 7) (49:)))
  (Qe (Qn (i:=9) Zb.nd rfl (12:) (QF Qc))
  (Qe (ZS (QL (Qw Ua (pv 5) (QF Qc) (QA _)) (Qe (Qn (i:=8) Zb.nd rfl (Or.inr rfl) (Zk PySem.F.plainAttrs_list PySem.F.slot_list_pop PySem.F.type_list_pop Wg (pv 5) (Qa (G9 (Qj Qm (QF (Qa (Ql Qs (Ql QG (pv 7) Qd) (Qr Qo rfl G.len PySem.boot_len (Qa (pv 5) Qc))) (Qa (Ql ZR (Qr Qo rfl G.len PySem.boot_len (Qa (pv 5) Qc)) Qd) Qc))) (Ql Qs (pv 7) Qd) (2:))) Qc)))
  (Qh (ZV (i:=9) (CompG.many (xs:=["_law_row"]) (caps:=["_law_nodes", "_law_spot", "_law_top"]) (cap:=[4,8,2]) (cs:=[_,_,_]) rfl rfl (0:) (0:) (0:) (0:) (0:) (0:) rfl rfl rfl) rfl (QT (Yl (Yw hr) (pv 3) (Qj Qm (Qj Qm (pv 4) (pv 8) (2:)) Qd (2:)) (2:))) (Zo (CompG.many (xs:=["_law_row"]) (caps:=["_law_nodes", "_law_spot", "_law_top"]) (cap:=[4,8,2]) (cs:=[_,_,_]) rfl rfl (0:) (0:) (0:) (0:) (0:) (0:) rfl rfl rfl))
   (fun _ _ _ _=>WQ (PW.pt (pw_and (Qw (r:=N0 K (A.deeper (PyProof.Rows.envOfC "_law_grown" (defScope UW) s.heap.objs.size f cdv)) true) Ua (Qj (r:=GI K) Qk (pv 0) Qd (2:)) (Qz Qc) (QA _)) (pw_and1 (Qw Vy (Qj (r:=Xx K) Qm (Qj (r:=Xx K) Qm (pv 1) (pv 2) (2:)) Qd (2:)) (pv 3) (QA _)))))) (fun _ _ _ _=>pv 0) Zb.nd rfl rfl))) Qu))
  (Qe (ZS (QL (Qw Ua (pv 9) (QF Qc) (QA _)) (Qe (Y6 (Qj Qm (pv 9) (Ql Qs (Ql QG (pv 7) Qd) (Qr Qo rfl G.len PySem.boot_len (Qa (pv 9) Qc))) (2:)) (Y1 (Qj Qm (pv 4) (pv 8) (2:)) Qd ZL))
  (Qh (QU PassesOwn.never rfl (Jr (Qj Qk (Qj Qm (Qj Qm (pv 4) (pv 8) (2:)) Qd (2:)) Qd (2:))) (QC (i:=10) Zb.nd rfl (12:)) (Qe (QI (Zk PySem.F.plainAttrs_list PySem.F.slot_list_append PySem.F.type_list_append QY (Qj Qm (Qj Qm (pv 4) (pv 8) (2:)) Qd (2:)) (Qa (49:) Qc)))
  (Qe (QI (Zk PySem.F.plainAttrs_list PySem.F.slot_list_append PySem.F.type_list_append QY (pv 5) (Qa (49:) Qc)))
  (Qh (QI (Zk PySem.F.plainAttrs_list PySem.F.slot_list_append PySem.F.type_list_append QY (pv 4) (Qa ((QF (Qa (pv 10) (Qa (Ql QK (Qj Qm (Qj Qm (pv 4) (pv 8) (2:)) Qd (2:)) Qd) (Qa (Y7) (Qa (Ql ZR (Ql Qs (Ql QG (pv 7) (Ql QK Qd (49:))) Qd) Qd) (Qa (QF Qc) Qc))))))) Qc))))))))) Qu))
  (Qh (Y6 (Qq RK hr (Qa (pv 6) (Qa (pv 7) Qc))) (Y1 (Qj Qm (pv 4) (pv 8) (2:)) Qd ZL)))))))))
  (Qh (Qp (pv 4))))))),?_⟩
 have hk0m:k0 ∈ ks:=List.mem_of_getElem? hk0
 have hkp:=hWF.ne
 refine ⟨_,rfl,lw,wts ks,rfl,wdA hW,wdB hW,wdC hWF.ok,wdD hWF.ok,fun d hd=>?_⟩
 have k1:=Qf hd (.dK (wkv ks))
 have hW1:=hW.same k1
 have hd1:upd H d (.dK (wkv ks)) d=some (.dK (wkv ks)):=Qb
 have hlc1:=k1.seq hlc
 generalize upd H d (.dK (wkv ks))=H1 at k1 hW1 hd1 hlc1
 have hat0:atI (ks.map fun k=>V.ref k.1) 0=some (.ref k0.1):=Qv (j:=0) (by rw [List.getElem?_map,hk0];rfl)
 refine ⟨_,rfl,lw,_,0,_,rfl,rfl,hW1.1,hat0,k0.1,_,0,_,rfl,rfl,(hW1.2 k0 hk0m).1,rfl,(15:),fun l1 hl1=>⟨(by show 5≤sizeLine;decide),fun l2 hl2=>⟨(45:),fun ln hln=>⟨(45:),fun lb hlb=>?_⟩⟩⟩⟩
 have GH0:∃ ns:List Nd,GH H1 (upd (upd (upd (upd H1 l1 (.lst [])) l2 (.lst [.str k0.2.1,.int 1,.non,.int 0,.ref l1])) ln (.lst [.ref l2])) lb (.lst [.int 0])) ln lb ns [0]∧AllOk ks top ns∧BOk ns [0]∧ns.length=1∧∃ n,ns[0]?=some n∧n.kd=k0.2.1:=by
  have s1:=Qf hl1 (.lst [])
  have s2:=Qf hl2 (.lst [.str k0.2.1,.int 1,.non,.int 0,.ref l1])
  have s3:=Qf hln (.lst [.ref l2])
  have s4:=Qf hlb (.lst [.int 0])
  have h12:=Qi Qb hl2
  have h1n:=Qi (s2 _ _ Qb) hln
  have h2n:=Qi Qb hln
  have h1b:=Qi (s3 _ _ (s2 _ _ Qb)) hlb
  have h2b:=Qi (s3 _ _ Qb) hlb
  have hnb:=Qi Qb hlb
  have f2:=s1.free hl2
  have fn:=s1.free (s2.free hln)
  have fb:=s1.free (s2.free (s3.free hlb))
  refine ⟨[⟨l2,k0.2.1,1,none,0,l1,[]⟩],⟨s1.trans (s2.trans (s3.trans s4)),s4 _ _ Qb,Qb,fun i n e=>?_,fun i n e=>?_,fun i j n m e1 e2 hij=>?_,fun i j n m e1 e2=>?_,fun i n e=>?_,fun i n e=>?_,fn,fb,hnb⟩,fun i n e=>?_,⟨by simp,fun b hb=>?_,by show 1≤1;lia⟩,rfl,_,rfl,rfl⟩
  ·obtain ⟨rfl,rfl⟩:=Zl e
   exact s4 _ _ (s3 _ _ Qb)
  ·obtain ⟨rfl,rfl⟩:=Zl e
   exact s4 _ _ (s3 _ _ (s2 _ _ Qb))
  ·have:=(Zl e1).1
   have:=(Zl e2).1
   lia
  ·obtain ⟨rfl,rfl⟩:=Zl e1
   obtain ⟨rfl,rfl⟩:=Zl e2
   exact Ne.symm h12
  ·obtain ⟨rfl,rfl⟩:=Zl e
   exact ⟨h2n,h2b,h1n,h1b⟩
  ·obtain ⟨rfl,rfl⟩:=Zl e
   exact ⟨f2,hl1⟩
  ·obtain ⟨rfl,rfl⟩:=Zl e
   exact ⟨Nat.le_refl _,ht1,List.mem_map.mpr ⟨k0,hk0m,rfl⟩,fun _=>rfl,fun r z=>(nomatch z)⟩
  ·have:b=0:=by simpa using hb
   subst this
   exact ⟨_,rfl,rfl⟩
 obtain ⟨ns0,hG0,hA0,hB0,hL0,hF0⟩:=GH0
 generalize upd (upd (upd (upd H1 l1 (.lst [])) l2 (.lst [.str k0.2.1,.int 1,.non,.int 0,.ref l1])) ln (.lst [.ref l2])) lb (.lst [.int 0])=H2 at hG0
 refine ⟨_,rfl,lc,rfl,⟨_,hG0.sm.seq hlc1⟩,?_⟩
 refine ZF (K:=K) (xs:=cs.map V.int) (fun i σ H'=>∃ (c6 c7 c8 c9 c10:Option V) (ns:List Nd) (bare:List Nat),σ=[some (.ref lw),some (.ref lc),some (.int (top:Int)),some (.ref d),some (.ref ln),some (.ref lb),c6,c7,c8,c9,c10]∧GH H1 H' ln lb ns bare∧AllOk ks top ns∧BOk ns bare∧0 < ns.length∧ns.length≤1 + 3 * i∧∃ n,ns[0]?=some n∧n.kd=k0.2.1)
  ⟨none,none,none,none,none,ns0,[0],rfl,hG0,hA0,hB0,by lia,by lia,hF0⟩ ?_ ?_ ?_
 ·rintro i σ H' _ ⟨_,_,_,_,_,_,_,_,hG,_⟩
  exact hG.sm.seq hlc1
 ·rintro i x σ H3 hx ⟨c6,c7,c8,c9,c10,ns,bare,rfl,hG,hA,hB,hL1,hL2,hF⟩
  obtain ⟨c,rfl⟩ : ∃ c:Int,x=.int c:=by
   obtain ⟨c,_,rfl⟩:=List.mem_map.mp (List.mem_of_getElem? hx)
   exact ⟨c,rfl⟩
  have hi:i < cs.length:=by
   have:=(List.getElem?_eq_some_iff.mp hx).1
   simpa using this
  have hnl:(NR ns).length=ns.length:=List.length_map ..
  have hbl:(NI bare).length=bare.length:=List.length_map ..
  refine ⟨_,rfl,c,5,rfl,by decide,by decide,fun nu n0 n1=>?_⟩
  refine ⟨_,rfl,_,rfl,ln,_,rfl,.inl (SqL.of hG.hn),_,_,rfl,rfl,(by rw [hnl];lia),?_⟩
  obtain ⟨sp0,hsp0,hsp1⟩ : ∃ sp0:Nat,nu % (((NR ns).length:Nat):Int)=(sp0:Int)∧sp0 < ns.length:=by
   have a0:0≤nu % (((NR ns).length:Nat):Int):=Int.emod_nonneg _ (by rw [hnl];lia)
   have a1:nu % (((NR ns).length:Nat):Int) < (((NR ns).length:Nat):Int):=Int.emod_lt_of_pos _ (by rw [hnl];lia)
   exact ⟨(nu % (((NR ns).length:Nat):Int)).toNat,by lia,by lia⟩
  refine ⟨(15:),fun lf hlf=>?_⟩
  have k4:=Qf hlf (.lst [])
  have hG4:=hG.same k4
  have hf4:upd H3 lf (.lst []) lf=some (.lst []):=Qb
  dsimp only
  rw [hsp0]
  generalize upd H3 lf (.lst [])=H4 at k4 hG4 hf4
  refine ⟨fun σ' H'=>∃ (spot:Nat) (n:Nd) (bare':List Nat) (lf:Addr) (us:List PNx),σ'=[some (.ref lw),some (.ref lc),some (.int (top:Int)),some (.ref d),some (.ref ln),some (.ref lb),some (.int c),some (.int nu),some (.int (spot:Int)),some (.ref lf),c10]∧GH H1 H' ln lb ns bare'∧BOk ns bare'∧ns[spot]?=some n∧H' lf=some (.lst (us.map fun r=>V.ref r.1))∧(∀ r ∈ us,r ∈ Qy ks n.kd)∧us.length≤10∧(us≠[]→n.row=none∧n.lv < top∧spot ∉ bare'),?_,?_⟩
  ·refine ⟨_,rfl,(15:),fun le hle=>?_⟩
   have ke:=Qf hle (.lst [])
   have hGe:=hG4.same ke
   have layb:(PyData.list ((bare.map fun (b:Nat)=>(b:Int)).map PyData.int)).canLay0=true:=by simp only [PyData.canLay0];exact UK _
   refine ⟨.list ((bare.map fun (b:Nat)=>(b:Int)).map PyData.int),.list [],.lst (SqL.of hGe.hb) (by rw [Rb];exact XQ _),.lst (SqL.of Qb) .nil,layb,by simp [PyData.canLay0,PyData.canLayAll0],room _ (22:),_,rfl,?_⟩
   rw [if_pos rfl,X5]
   have hfe:=ke _ _ hf4
   generalize upd H4 le (.lst [])=H5 at hGe hfe
   by_cases hbe:bare=[]
   ·rw [hbe]
    obtain ⟨n,hn⟩ : ∃ n,ns[sp0]?=some n:=⟨_,List.getElem?_eq_getElem hsp1⟩
    exact ZE ⟨sp0,n,[],lf,[],rfl,by rw [← hbe];exact hGe,by rw [← hbe];exact hB,hn,hfe,fun r hr=>(nomatch hr),by show 0≤10;lia,fun z=>absurd rfl z⟩
   have hbp:0 < bare.length:=List.length_pos_iff.mpr hbe
   have hbt:(!((bare.map fun (b:Nat)=>(b:Int)).map PyData.int).isEmpty)=true:=by
    cases hbb:bare with
    | nil=>exact absurd hbb hbe
    | cons x r=>rfl
   refine Zt (fun _=>?_) (fun z=>absurd hbt z)
   refine ⟨_,rfl,.inl ⟨rfl,_,SqL.of hGe.hb⟩,⟨fun v H'=>Same H5 H'∧∃ k:Nat,v=.int (k:Int)∧k < bare.length,?_,?_⟩⟩
   ·refine ⟨_,rfl,_,_,rfl,rfl,(13:),_,rfl,lb,_,rfl,.inl (SqL.of hGe.hb),_,_,rfl,rfl,(by rw [hbl];lia),_,rfl,lb,_,rfl,.inl (SqL.of hGe.hb),_,_,rfl,rfl,(44:),fun lp hlp=>?_⟩
    have kp:=Qf hlp (.lst [.int (nu / 4 % (((NI bare).length:Nat):Int)),.int ((((NI bare).length:Nat):Int) - 1)])
    have a0:0≤nu / 4 % (((NI bare).length:Nat):Int):=Int.emod_nonneg _ (by rw [hbl];lia)
    have a1:nu / 4 % (((NI bare).length:Nat):Int) < (((NI bare).length:Nat):Int):=Int.emod_lt_of_pos _ (by rw [hbl];lia)
    have a2:nu / 4 % (((NI bare).length:Nat):Int) < (bare.length:Int):=by lia
    have p0:0≤nu % 2:=Int.emod_nonneg _ (27:)
    have p1:nu % 2 < 2:=Int.emod_lt_of_pos _ (27:)
    rcases (show nu % 2=0∨nu % 2=1 by lia) with hp | hp
    ·refine ⟨_,rfl,_,_,rfl,rfl,(by show (0:Int) < 2;decide),lp,_,_,.int (nu / 4 % (((NI bare).length:Nat):Int)),rfl,rfl,SqL.of Qb,(by show atI _ (nu % 2)=_;rw [hp];rfl),kp,(nu / 4 % (((NI bare).length:Nat):Int)).toNat,by rw [Int.toNat_of_nonneg a0],by lia⟩
    ·refine ⟨_,rfl,_,_,rfl,rfl,(by show (0:Int) < 2;decide),lp,_,_,.int ((((NI bare).length:Nat):Int) - 1),rfl,rfl,SqL.of Qb,(by show atI _ (nu % 2)=_;rw [hp];rfl),kp,bare.length - 1,by rw [hbl,show ((bare.length:Nat):Int) - 1=((bare.length - 1:Nat):Int) by lia],by lia⟩
   rintro v H6 ⟨g6,k,rfl,hk⟩
   have hG6:=hGe.same g6
   have hbk:bare[k]?=some bare[k]:=List.getElem?_eq_getElem hk
   have hble:=hB.bl
   refine ⟨lb,_,_,k,.int ((bare[k]:Nat):Int),rfl,rfl,hG6.hb,by lia,by lia,by rw [hbl];exact NU hk,by rw [List.getElem?_map,hbk];rfl,?_⟩
   rw [show (NI bare).eraseIdx k=NI (bare.eraseIdx k) from JK _ _ _]
   have hG7:=hG6.setB (bare.eraseIdx k)
   have hd7:=hG7.sm _ _ hd1
   generalize upd H6 lb (.lst (NI (bare.eraseIdx k)))=H7 at hG7 hd7
   obtain ⟨n,hn,hnr⟩:=hB.no bare[k] (List.getElem_mem hk)
   have hB7:BOk ns (bare.eraseIdx k):=⟨hB.nd.sublist (List.eraseIdx_sublist _ _),fun b hb=>hB.no b (List.mem_of_mem_eraseIdx hb),Nat.le_trans (List.length_eraseIdx_le _ _) hB.bl⟩
   have hnot:bare[k] ∉ bare.eraseIdx k:=fun z=>(Gk hB.nd hbk z).2 rfl
   generalize bare[k]=spot at hn hnot
   obtain ⟨kd,hkd,ekd,erow,hfd⟩:=Jt ((hA _ _ hn).kd) hWF.ok
   have hWn:=hW1.same hG7.sm
   have hRn:=(hWn.2 kd hkd).2
   have hro:=(hWF.kf kd hkd).ok
   refine ⟨_,rfl,_,rfl,_,rfl,ln,_,_,_,rfl,rfl,SqL.of hG7.hn,Zq hn,n.a,_,0,_,rfl,rfl,SqL.of (hG7.ha _ _ hn),rfl,d,.ref kd.2.2.1,rfl,Xh hd7 hfd,kd.2.2.1,rfl,⟨_,hRn.1⟩,fun acc hacc=>?_⟩
   refine Ys (K:=K) (xs:=kd.2.2.2.map fun t=>V.ref t.1) (cs:=[some (.ref ln),some (.int (spot:Int)),some (.int (top:Int))]) (te:=Zi 0) (fun j ys H'=>∃ us:List PNx,ys=us.map (fun r=>V.ref r.1)∧H' acc=some (.lst ys)∧Same H7 H'∧(∀ r ∈ us,r ∈ kd.2.2.2)∧us.length≤j∧(us≠[]→n.lv < top))
    ⟨[],rfl,Qb,Qf hacc _,fun r hr=>(nomatch hr),Nat.le_refl _,fun z=>absurd rfl z⟩ ?_ ?_ ?_
   ·rintro j ys H' _ ⟨_,_,_,g,_⟩
    exact g.seq hRn.1
   ·rintro j x ys H8 hj hx ⟨us,rfl,hy,g8,hus,hul,hune⟩
    have hjr:j < kd.2.2.2.length:=by simpa using hj
    obtain rfl:x=.ref kd.2.2.2[j].1:=by
     rw [List.getElem?_map,List.getElem?_eq_getElem hjr] at hx
     exact (Option.some.inj hx).symm
    obtain ⟨hr1,hr2⟩:=hRn.2 _ (List.getElem_mem hjr)
    have h10:=hro.len
    have skip:∀ H9,Same H8 H9→∃ us':List PNx,us.map (fun r=>V.ref r.1)=us'.map (fun r=>V.ref r.1)∧H9 acc=some (.lst (us.map fun r=>V.ref r.1))∧Same H7 H9∧(∀ r ∈ us',r ∈ kd.2.2.2)∧us'.length≤j + 1∧(us'≠[]→n.lv < top):=fun H9 g9=>⟨us,rfl,g9 _ _ hy,g8.trans g9,hus,by lia,hune⟩
    refine ⟨_,rfl,kd.2.2.2[j].1,_,1,_,rfl,rfl,g8.seqT hr1,rfl,(15:),fun pt hpt=>?_⟩
    have kt:=Qf hpt (.tup [])
    have lay1:(PyData.tuple (kd.2.2.2[j].2.2.2.map PyData.str)).canLay0=true:=by simp only [PyData.canLay0];exact Yc _ (hro.kn _ (List.getElem_mem hjr))
    refine ⟨_,.tuple [],.tup ((g8.trans kt).seqT hr2) (YO _),.tup (SqT.of Qb) .nil,lay1,by simp [PyData.canLay0,PyData.canLayAll0],room _ (22:),_,rfl,?_⟩
    rw [if_pos rfl,XW]
    have hG9:=hG7.same (g8.trans kt)
    refine Zt (fun cb=>?_) (fun cb=>?_)
    ·refine ⟨_,rfl,_,rfl,ln,_,_,_,rfl,rfl,SqL.of hG9.hn,Zq hn,n.a,_,1,_,rfl,rfl,SqL.of (hG9.ha _ _ hn),rfl,_,rfl,_,_,rfl,rfl,_,rfl,?_⟩
     refine Zt (fun cl=>?_) (fun cl=>Yi hj (skip _ kt))
     have hlt:(n.lv:Int) < (top:Int):=of_decide_eq_true cl
     refine ⟨_,rfl,QB hj (kt _ _ hy) (29:) ⟨us ++ [kd.2.2.2[j]],by rw [List.map_append];rfl,Qb,fun z u e=>?_,fun r hr=>?_,by rw [List.length_append,List.length_singleton];lia,fun _=>by lia⟩⟩
     ·rw [Qg (Qi e hacc)];exact kt _ _ (g8 _ _ e)
     ·rcases List.mem_append.mp hr with hr | hr
      ·exact hus r hr
      ·have:r=kd.2.2.2[j]:=by simpa using hr
       rw [this];exact List.getElem_mem hjr
    ·exact ZE (Yi hj (skip _ kt))
   ·rintro ys H8 ⟨us,rfl,hy,g8,hus,hul,hune⟩
    rw [List.length_map] at hul
    exact ⟨spot,n,bare.eraseIdx k,acc,us,rfl,hG7.same g8,hB7,hn,hy,fun r hr=>by rw [erow];exact hus r hr,Nat.le_trans hul hro.len,fun z=>⟨hnr,hune z,hnot⟩⟩
  rintro σ H5 ⟨spot,n,bare1,lf,us,rfl,hG5,hB5,hn,hlf5,hus,hul,hne⟩
  refine ⟨fun σ' H'=>∃ (c10:Option V) (n':Nd) (ns':List Nd) (bare':List Nat),σ'=[some (.ref lw),some (.ref lc),some (.int (top:Int)),some (.ref d),some (.ref ln),some (.ref lb),some (.int c),some (.int nu),some (.int (spot:Int)),some (.ref lf),c10]∧GH H1 H' ln lb ns' bare'∧AllOk ks top ns'∧BOk ns' bare'∧ns'[spot]?=some n'∧0 < ns'.length∧ns'.length≤1 + 3 * (i + 1)∧∃ n,ns'[0]?=some n∧n.kd=k0.2.1,?_,?_⟩
  ·refine ⟨_,rfl,(15:),fun le hle=>?_⟩
   have ke:=Qf hle (.lst [])
   have hGe:=hG5.same ke
   have hAn:=hA _ _ hn
   obtain ⟨kd,hkd,ekd,erow,hfd⟩:=Jt hAn.kd hWF.ok
   have hro:=(hWF.kf kd hkd).ok
   have hRW:∀ H',Same H1 H'→∀ r ∈ us,RowAt K H' r:=fun H' g r hr=>(((hW1.same g).2 kd hkd).2).2 r (by rw [← erow];exact hus r hr)
   have layr:(PyData.list (us.map Zz)).canLay0=true:=by
    simp only [PyData.canLay0]
    exact UU (fun r hr=>hro.nm r (by rw [← erow];exact hus r hr)) fun r hr=>hro.kn r (by rw [← erow];exact hus r hr)
   have hfe:=ke _ _ hlf5
   refine ⟨.list (us.map Zz),.list [],.lst (SqL.of hfe) (Xm (hRW _ hGe.sm)),.lst (SqL.of Qb) .nil,layr,by simp [PyData.canLay0,PyData.canLayAll0],room _ (22:),_,rfl,?_⟩
   rw [if_pos rfl,X5]
   generalize upd H5 le (.lst [])=H6 at hGe hfe
   by_cases hue:us=[]
   ·rw [hue]
    exact ZE ⟨_,n,ns,bare1,rfl,hGe,hA,hB5,hn,hL1,by lia,hF⟩
   have hup:0 < us.length:=List.length_pos_iff.mpr hue
   have hut:(!(us.map Zz).isEmpty)=true:=by
    cases hbb:us with
    | nil=>exact absurd hbb hue
    | cons x r=>rfl
   refine Zt (fun _=>?_) (fun z=>absurd hut z)
   obtain ⟨hnr,hnl5,hnb⟩:=hne hue
   have eul:(us.map fun r=>V.ref r.1).length=us.length:=List.length_map ..
   obtain ⟨y,hy,hat⟩:=Zx (xs:=us.map fun r=>V.ref r.1) (k:=((us.map fun r=>V.ref r.1).length:Int)) rfl (by rw [eul];exact hup) (nu / 1024)
   obtain ⟨r,hr,rfl⟩:=List.mem_map.mp hy
   refine ⟨_,rfl,_,rfl,_,_,rfl,rfl,(13:),_,rfl,lf,_,rfl,.inl (SqL.of hfe),_,_,rfl,rfl,(by rw [eul];lia),lf,_,_,_,rfl,rfl,SqL.of hfe,hat,?_⟩
   refine ⟨_,rfl,_,rfl,ln,_,_,_,rfl,rfl,SqL.of hGe.hn,Zq hn,n.a,_,2,2,rfl,rfl,hGe.ha _ _ hn,rfl,?_⟩
   have hG7:=hGe.setA hn { n with row:=some r } rfl rfl rfl
   have hM7:Mid ks top k0.2.1 spot n.kd n.lv r ns.length 0 (ns.set spot { n with row:=some r }) bare1:=Mid.start hA hB5 hn hnr hnb (hus r hr) hF
   have hn7:(ns.set spot { n with row:=some r })[spot]?=some { n with row:=some r }:=UC hn
   rw [show (ndV n).set 2 (V.ref r.1)=ndV { n with row:=some r } from rfl]
   generalize upd H6 n.a (.lst (ndV { n with row:=some r }))=H7 at hG7
   have hrm:r ∈ kd.2.2.2:=by rw [← erow];exact hus r hr
   have hw3:=(hWF.kf kd hkd).w3 r hrm
   have hcl:=(hWF.kf kd hkd).cl r hrm
   have hRr:∀ H',Same H1 H'→RowAt K H' r:=fun H' g=>hRW H' g r hr
   refine ⟨_,rfl,_,rfl,ln,_,_,_,rfl,rfl,SqL.of hG7.hn,Zq hn7,n.a,_,2,_,rfl,rfl,SqL.of (hG7.ha spot { n with row:=some r } hn7),rfl,r.1,_,1,_,rfl,rfl,(hRr _ hG7.sm).1,rfl,r.2.2.1,rfl,⟨_,(hRr _ hG7.sm).2⟩,?_⟩
   refine XJ (K:=K) (xs:=r.2.2.2.map V.str) (fun j σ H'=>∃ (c10:Option V) (ns':List Nd) (bare':List Nat),σ=[some (.ref lw),some (.ref lc),some (.int (top:Int)),some (.ref d),some (.ref ln),some (.ref lb),some (.int c),some (.int nu),some (.int (spot:Int)),some (.ref lf),c10]∧GH H1 H' ln lb ns' bare'∧Mid ks top k0.2.1 spot n.kd n.lv r ns.length j ns' bare')
    ⟨_,_,_,rfl,hG7,hM7⟩ ?_ ?_ ?_
   ·rintro j σ H' _ ⟨_,_,_,_,g,_⟩
    exact (hRr _ g.sm).2
   ·rintro j x σ H8 hx ⟨c10',ns',bare',rfl,hG8,hM8⟩
    have hj:j < r.2.2.2.length:=by
     have:=(List.getElem?_eq_some_iff.mp hx).1
     simpa using this
    obtain rfl:x=.str r.2.2.2[j]:=by
     rw [List.getElem?_map,List.getElem?_eq_getElem hj] at hx
     exact (Option.some.inj hx).symm
    obtain ⟨n8,hn8,hr8,hk8,hl8,hN8⟩:=hM8.sp
    have hlen8:=hM8.len
    have enl:(NR ns').length=ns.length + j:=by rw [List.length_map,hlen8]
    have hch8:=(hN8.ro r hr8).2.1
    have hbl8:=hM8.bk.bl
    refine ⟨_,rfl,_,rfl,ln,_,_,_,rfl,rfl,SqL.of hG8.hn,Zq hn8,n8.a,_,4,_,rfl,rfl,SqL.of (hG8.ha _ _ hn8),rfl,.inl ⟨rfl,_,SqL.of (hG8.hc _ _ hn8)⟩,_,rfl,ln,_,rfl,.inl (SqL.of hG8.hn),n8.cl,_,_,rfl,rfl,hG8.hc _ _ hn8,by rw [List.length_map,QO];lia,?_⟩
    have e1:NI n8.ch ++ [V.int (((NR ns').length:Nat):Int)]=NI (n8.ch ++ [ns.length + j]):=by rw [enl];unfold NI;rw [List.map_append];rfl
    rw [e1]
    have hG9:=hG8.setC hn8 (n8.ch ++ [ns.length + j])
    generalize upd H8 n8.cl (.lst (NI (n8.ch ++ [ns.length + j])))=H9 at hG9
    have hn9:=UC (n':={ n8 with ch:=n8.ch ++ [ns.length + j] }) hn8
    have enl9:(NR (ns'.set spot { n8 with ch:=n8.ch ++ [ns.length + j] })).length=ns.length + j:=by rw [List.length_map,List.length_set,hlen8]
    refine ⟨_,rfl,.inl ⟨rfl,_,SqL.of hG9.hb⟩,_,rfl,ln,_,rfl,.inl (SqL.of hG9.hn),lb,_,_,rfl,rfl,hG9.hb,by rw [List.length_map,QO];lia,?_⟩
    have e2:NI bare' ++ [V.int (40:)]=NI (bare' ++ [ns.length + j]):=by rw [enl9];unfold NI;rw [List.map_append];rfl
    rw [e2]
    have hG10:=hG9.setB (bare' ++ [ns.length + j])
    generalize upd H9 lb (.lst (NI (bare' ++ [ns.length + j])))=H10 at hG10
    refine ⟨_,rfl,.inl ⟨rfl,_,SqL.of hG10.hn⟩,_,rfl,_,rfl,_,rfl,ln,_,_,_,rfl,rfl,SqL.of hG10.hn,Zq hn9,n8.a,_,1,_,rfl,rfl,SqL.of (hG10.ha spot { n8 with ch:=n8.ch ++ [ns.length + j] } hn9),rfl,_,_,rfl,rfl,?_⟩
    refine ⟨_,rfl,_,rfl,ln,_,rfl,.inl (SqL.of hG10.hn),_,_,rfl,rfl,_,_,rfl,rfl,⟨?_,?_⟩,_,_,rfl,rfl,(by show (0:Int) < 5;decide),_,_,rfl,rfl,(15:),fun mc hmc=>⟨(by show 5≤sizeLine;decide),fun ma hma=>?_⟩⟩
    ·show (0:Int) < 3 + (40:)
     lia
    ·show 3 + (40:) < 1073741824
     rw [enl9];lia
    have kc:=Qf hmc (.lst [])
    have ka:=Qf hma (.lst [.str r.2.2.2[j],.int ((n8.lv:Int)+1),.non,.int (nu / (3 + (40:)) % 5 - 2),.ref mc])
    refine ⟨ln,_,_,rfl,rfl,ka _ _ (kc _ _ hG10.hn),by rw [enl9,QO];lia,_,_,_,rfl,GH.add hG10 (kc.trans ka) ⟨ma,r.2.2.2[j],n8.lv + 1,none,nu / (3 + (40:)) % 5 - 2,mc,[]⟩ (kc.free hma) hmc (Ne.symm (Qi Qb hma)) Qb (ka _ _ Qb),hM8.next hn8 (List.getElem?_eq_getElem hj) (by lia) (hcl _ (List.getElem_mem hj)) rfl (by show n8.lv + 1=n.lv + 1;rw [hl8]) rfl rfl⟩
   ·rintro σ H8 ⟨c10',ns',bare',rfl,hG8,hM8⟩
    rw [List.length_map] at hM8
    obtain ⟨n8,hn8,_⟩:=hM8.sp
    exact ⟨_,n8,ns',bare',rfl,hG8,hM8.done,hM8.bk,hn8,by rw [hM8.len];lia,by rw [hM8.len];lia,hM8.k0⟩
  rintro σ H6 ⟨c10',n',ns',bare',rfl,hG6,hA6,hB6,hn6,hL6,hL6',hF6⟩
  refine ⟨_,rfl,_,rfl,c,nu,rfl,fun mk H7 g7=>?_⟩
  have hG7:=hG6.same g7
  refine ⟨_,rfl,_,rfl,ln,_,_,_,rfl,rfl,SqL.of hG7.hn,Zq hn6,n'.a,_,3,3,rfl,rfl,hG7.ha _ _ hn6,rfl,?_⟩
  exact ⟨_,_,_,_,_,ns'.set spot { n' with mr:=mk },bare',rfl,hG7.setA hn6 { n' with mr:=mk } rfl rfl rfl,hA6.setM hn6 mk,hB6.setM hn6 mk,by rw [List.length_set];exact hL6,by rw [List.length_set];exact hL6',Y8 hn6 rfl hF6⟩
 ·rintro σ H3 ⟨c6,c7,c8,c9,c10,ns,bare,rfl,hG,hA,hB,hL1,hL2,hF⟩
  rw [List.length_map] at hL2
  exact ⟨_,rfl,q ln lb H1 H3 ns bare k1 hG hA hL1 (10:) hF⟩
end
end K25
namespace K25
open PySem L2 TM TT K9 K11
theorem Xz {f:Str→Str→Option (List Str)}:∀ {bs:List (Tree Str)} {ss:List Str},ss.length=bs.length→(∀ (i:Nat) b s,bs[i]?=some b→ss[i]?=some s→isT f b s=true)→ZA f bs ss=true
 | [],ss,h,_=>by
  have:ss=[]:=List.length_eq_zero_iff.mp h
  subst this;simp [ZA]
 | b :: bs,[],h,_=>by simp at h
 | b :: bs,s :: ss,h,k=>by
  simp only [ZA,Bool.and_eq_true]
  exact ⟨k 0 b s rfl rfl,Xz (by simpa using h) fun i b' s' h1 h2=>k (i + 1) b' s' (by simpa using h1) (by simpa using h2)⟩
theorem Vm {d:Nat}:∀ {ts:List (Tree Str)},(∀ t ∈ ts,lv t≤d)→lvs ts≤d
 | [],_=>by simp [lvs]
 | t :: r,h=>by
  have h1:=h t List.mem_cons_self
  have h2:=Vm fun u hu=>h u (38:)
  simp only [lvs];lia
theorem JY {ks:List KdT} {k:Str} {r:PNx} (ok:RowsOk (Qy ks k)) (h:r ∈ Qy ks k):QD ks k r.2.1=some r.2.2.2:=by
 have hf:(Qy ks k).find? (fun x=>decide (x.2.1=r.2.1))=some r:=by
  obtain ⟨i,hi,e⟩:=List.getElem_of_mem h
  refine UB (i:=i) (by rw [List.getElem?_eq_getElem hi,e]) (24:) fun j y hj hy=>decide_eq_false fun z=>?_
  have h1:=List.pairwise_iff_getElem.mp ok.nd j i (29:) (29:) hj
  rw [List.getElem_map,List.getElem_map,e,(List.getElem?_eq_some_iff.mp hy).2] at h1
  exact h1 z
 unfold QD
 rw [hf];rfl
theorem O1 {m:Nat} {us:List V} {v:V}:(List.replicate (m + 1) V.non ++ us).set m v=List.replicate m V.non ++ v :: us:=by
 rw [List.replicate_succ',List.append_assoc,List.set_append_right _ _ (by rw [List.length_replicate];lia),List.length_replicate,Nat.sub_self]
 rfl
theorem YV {n k:Nat} (h:k < n):ixN n ((k:Nat):Int)=some k:=by
 unfold ixN
 rw [if_pos (10:),if_pos (10:),Int.toNat_natCast]
theorem Rg {k c:Nat} {us:List V} {u:V} (hc:k < c) (h:us[c - (k + 1)]?=some u):atI (List.replicate (k + 1) V.non ++ us) ((c:Nat):Int)=some u :=
 Qv (by rw [List.getElem?_append_right (by rw [List.length_replicate];lia),List.length_replicate];exact h)
structure NdsAt (K:PySem.W.Frag) (H:Hp) (ln:Addr) (ns:List Nd):Prop where
 l:SqL K H ln (NR ns)
 a:∀ (i:Nat) n,ns[i]?=some n→SqL K H n.a (ndV n)
 c:∀ (i:Nat) n,ns[i]?=some n→SqL K H n.cl (NI n.ch)
theorem NdsAt.same {K:PySem.W.Frag} {H H':Hp} {ln:Addr} {ns:List Nd} (g:Same H H') (h:NdsAt K H ln ns):NdsAt K H' ln ns:=⟨g.seq h.l,fun i n e=>g.seq (h.a i n e),fun i n e=>g.seq (h.c i n e)⟩
theorem GH.at {K:PySem.W.Frag} {H1 H:Hp} {ln lb:Addr} {ns:List Nd} {bare:List Nat} (h:GH H1 H ln lb ns bare):NdsAt K H ln ns:=⟨SqL.of h.hn,fun i n e=>SqL.of (h.ha i n e),fun i n e=>SqL.of (h.hc i n e)⟩
def SC (ks:List KdT) (s:List (Str × Nat)) (n:Nd) (t:Tree Str):Prop:=∃ ss,QD ks n.kd (nmT t)=some ss∧∀ (j c:Nat),n.ch[j]?=some c→∃ k l,s[c]?=some (k,l)∧ss[j]?=some k
def KidT (ks:List KdT) (s:List (Str × Nat)) (x:Nat) (ts:List (Tree Str)) (b0:Nat) (n:Nd) (t:Tree Str):Prop:=t.bs.length=n.ch.length∧(∀ (a:Nat) b c,t.bs[a]?=some b→n.ch[a]?=some c→x < c∧ts[c - b0]?=some b)∧SC ks s n t
theorem KidT.cons {ks:List KdT} {s:List (Str × Nat)} {k j:Nat} {ts:List (Tree Str)} {n:Nd} {t x:Tree Str} (h:KidT ks s (k + 1 + j) ts (k + 1) n t):KidT ks s (k + (j + 1)) (x :: ts) k n t:=by
 refine ⟨h.1,fun a b c h1 h2=>?_,h.2.2⟩
 obtain ⟨h3,h4⟩:=h.2.1 a b c h1 h2
 refine ⟨by lia,?_⟩
 rw [show c - k=(c - (k + 1))+1 by lia,List.getElem?_cons_succ]
 exact h4
def UA (K:PySem.W.Frag):Sp:=fun vs H Q _=>∃ (lw ln:Addr) (ks:List KdT) (top:Nat) (ns:List Nd),vs=[.ref lw,.ref ln]∧WoodAt K H lw ks∧WF ks∧NdsAt K H ln ns∧AllOk ks top ns∧0 < ns.length∧ns.length≤200 ∧
 ∀ (lt:Addr) (H':Hp) (us:List V) (ts:List (Tree Str)),Same H H'→SqL K H' lt us→TrAll K H' us ts→ts.length=ns.length→(∀ (i:Nat) n t,ns[i]?=some n→ts[i]?=some t→isT (QD ks) t n.kd=true∧lv t + n.lv≤top + 1∧KidT ks (sg ns) i ts 0 n t)→Q (.ref lt) H'
abbrev OS:List Str:=["_law_wood_here", "_law_nodes", "_law_trees", "_law_k", "_law_row", "_law_ends"]
section
variable {P:Program} {w:World} {K:PySem.W.Frag} {mg:Str→Option Value} {base:Heap} {f:Addr} {fd:FuncData}
theorem Yo:FnScope OS ["_law_wood_here", "_law_nodes"] (defScope U0):=(1:)
theorem Mk (F:Fun K "_law_built" "_law_built" U0 f fd) (G:Gm mg) (RM:Fn P w K mg base 1 "_law_mixed" ["_law_cell", "_law_k"] Q8):FnOk P w K mg base CX0 2 f fd ["_law_wood_here", "_law_nodes"] (UA K):=by
 refine F.ok Yo (8:) (4:)
 ·obtain ⟨lw,ln,ks,top,ns,rfl,_⟩:=h
  rfl
 obtain ⟨lw,ln,ks,top,ns,rfl,hW,hWF,hN,hA,hL0,hL1,q⟩:=h
 have room:∀ m:Nat,m≤64→(A.deeper (PyProof.Rows.envOfC "_law_built" (defScope U0) s.heap.objs.size f cdv)).units + m < cLine:=fun m hm=>by have:=hr.units;lia
 refine ⟨_,(Qe (Qn (i:=2) Yo.nd rfl (Or.inr rfl) (QP (CompG.many (xs:=["_law_node"]) (caps:=[]) (cap:=[]) (cs:=[]) rfl rfl (0:) (0:) (0:) (0:) (0:) (0:) rfl rfl rfl) rfl (QT (pv 1)) (Zo (CompG.many (xs:=["_law_node"]) (caps:=[]) (cap:=[]) (cs:=[]) rfl rfl (0:) (0:) (0:) (0:) (0:) (0:) rfl rfl rfl)) (fun _ _ _ _=>Q2) (fun _ _ _ _=>Y7)))
  (Qe (QU PassesOwn.never rfl (GV rfl G.rev (Qa (Qx JW rfl G.rng PyProof.Rows.boot_range (Qa (Qr Qo rfl G.len PySem.boot_len (56:)) Qc)) Qc)) (QC (i:=3) Yo.nd rfl (12:)) (Qe (Qn (i:=4) Yo.nd rfl (12:) (Qj Qm (Qj Qm (pv 1) (pv 3) (2:)) Qd (2:)))
  (Qe (ZS (QL (Qw PB (pv 4) Y7 (QA _)) (Qe (ZV (i:=5) (CompG.many (xs:=["_law_end"]) (caps:=[]) (cap:=[]) (cs:=[]) rfl rfl (0:) (0:) (0:) (0:) (0:) (0:) rfl rfl rfl) rfl (QT (Yl (Yw hr) (Qx (Zf rfl) rfl G.dct PyProof.Rows.boot_dict (Qa (pv 0) Qc)) (Qj Qm (Qj Qm (pv 1) (pv 3) (2:)) Qd (2:)) (2:))) (Zo (CompG.many (xs:=["_law_end"]) (caps:=[]) (cap:=[]) (cs:=[]) rfl rfl (0:) (0:) (0:) (0:) (0:) (0:) rfl rfl rfl)) (fun _ _ _ _=>WQ (Qw (r:=N0 K (A.deeper (PyProof.Rows.envOfC "_law_built" (defScope U0) s.heap.objs.size f cdv)) false) LU (Qj (r:=GI K) Qk (pv 0) Qd (2:)) (Qz Qc) (QA _))) (fun _ _ _ _=>pv 0) Yo.nd rfl rfl)
  (Qh (Qn (i:=4) Yo.nd rfl (12:) (Qj Qm (pv 5) (Ql Qs (Qq RM hr (Qa (Qj Qm (Qj Qm (pv 1) (pv 3) (2:)) Qd (2:)) (Qa (pv 3) Qc))) (Qr Qo rfl G.len PySem.boot_len (Qa (pv 5) Qc))) (2:))))) Qu))
  (Qh (Y6 (Qz (Qa (Qj Qk (pv 4) Qd (2:)) (Qa (Qj Qm (Qj Qm (pv 1) (pv 3) (2:)) Qd (2:)) (Qa (Qx QN rfl G.tup PyProof.Rows.boot_tuple (Qa (QP (CompG.many (xs:=["_law_j"]) (caps:=["_law_trees"]) (cap:=[2]) (cs:=[_]) rfl rfl (0:) (0:) (0:) (0:) (0:) (0:) rfl rfl rfl) rfl (QT (Qj Qm (Qj Qm (pv 1) (pv 3) (2:)) Qd (2:))) (Zo (CompG.many (xs:=["_law_j"]) (caps:=["_law_trees"]) (cap:=[2]) (cs:=[_]) rfl rfl (0:) (0:) (0:) (0:) (0:) (0:) rfl rfl rfl)) (fun _ _ _ _=>Q2) (fun _ _ _ _=>Qj (r:=Xx K) Qm (pv 1) (pv 0) (2:))) Qc)) Qc)))) (Y1 (pv 2) (pv 3) ZL))))))
  (Qh (Qp (pv 2))))),?_⟩
 have hnl:(NR ns).length=ns.length:=List.length_map ..
 refine ⟨_,rfl,ln,rfl,⟨_,hN.l⟩,fun lt hlt=>?_⟩
 refine Ys (K:=K) (xs:=NR ns) (cs:=[]) (tt:=fun _ H Q=>Q true H) (fun j ys H'=>ys=List.replicate j V.non∧H' lt=some (.lst ys)∧Same H H')
  ⟨rfl,Qb,Qf hlt _⟩ ?_ ?_ ?_
 ·rintro j ys H' _ ⟨_,_,g⟩
  exact g.seq hN.l
 ·rintro j x ys H' hj hx ⟨rfl,hy,g⟩
  refine QZ (QB hj hy (by rw [List.length_replicate];lia) ⟨List.replicate_succ'.symm,Qb,fun z u e=>?_⟩)
  rw [Qg (Qi e hlt)];exact g _ _ e
 rintro ys H1 ⟨rfl,hlt1,g1⟩
 rw [hnl] at hlt1
 refine ⟨_,rfl,ln,_,rfl,.inl (g1.seq hN.l),_,rfl,by lia,by lia,fun pr hpr=>⟨pr,_,rfl,Qb,by lia,by lia,?_⟩⟩
 have k2:=Qf hpr (.rng 0 (((NR ns).length:Nat):Int))
 have hlt2:=k2 _ _ hlt1
 have g2:=g1.trans k2
 generalize upd H1 pr (.rng 0 (((NR ns).length:Nat):Int))=H2 at hlt2 g2
 rw [hnl,Int.toNat_natCast]
 refine U5 (hi:=((ns.length:Nat):Int) - 1) (n:=ns.length) (fun i σ H'=>∃ (c3 c4 c5:Option V) (us:List V) (ts:List (Tree Str)),σ=[some (.ref lw),some (.ref ln),some (.ref lt),c3,c4,c5]∧Same H H'∧H' lt=some (.lst (List.replicate (ns.length - i) V.non ++ us))∧TrAll K H' us ts∧ts.length=i∧∀ (j:Nat) n t,ns[ns.length - i + j]?=some n→ts[j]?=some t→isT (QD ks) t n.kd=true∧lv t + n.lv≤top + 1∧KidT ks (sg ns) (ns.length - i + j) ts (ns.length - i) n t)
  ⟨none,none,none,[],[],rfl,g2,by rw [List.append_nil];exact hlt2,.nil,rfl,fun j n t _ h=>by simp at h⟩ ?_ ?_
 ·rintro i σ H3 hi ⟨c3,c4,c5,us,ts,rfl,g3,hlt3,hts,htl,hok⟩
  obtain ⟨k,hk⟩ : ∃ k,ns.length - i=k + 1:=⟨ns.length - i - 1,by lia⟩
  have ek:((ns.length:Nat):Int) - 1 - (i:Int)=((k:Nat):Int):=by lia
  rw [ek]
  rw [hk] at hlt3 hok
  have hkl:k < ns.length:=by lia
  have hn:ns[k]?=some ns[k]:=List.getElem?_eq_getElem hkl
  generalize ns[k]=n at hn
  have hAn:=hA _ _ hn
  obtain ⟨kd,hkd,ekd,erow,hfd⟩:=Jt hAn.kd hWF.ok
  have hro:=(hWF.kf kd hkd).ok
  have hN3:=hN.same g3
  refine ⟨_,rfl,_,rfl,ln,_,_,_,rfl,rfl,hN3.l,Zq hn,n.a,_,2,_,rfl,rfl,hN3.a _ _ hn,rfl,?_⟩
  refine ⟨fun σ' H'=>∃ (c5:Option V) (r:PNx),σ'=[some (.ref lw),some (.ref ln),some (.ref lt),some (.int (k:Int)),some (.ref r.1),c5]∧Same H3 H'∧r ∈ Qy ks n.kd∧(n.row=some r∨n.row=none∧r.2.2.2=[]),?_,?_⟩
  ·refine ⟨_,rfl,rfl,_,rfl,?_⟩
   cases hrow:n.row with
   | some r=>exact L5 (43:) ⟨_,r,rfl,Same.refl _,(hAn.ro r hrow).1,.inl rfl⟩
   | none =>
    have hW3:=hW.same g3
    refine LF rfl ?_
    refine ⟨_,rfl,lw,wts ks,rfl,wdA hW3,wdB hW3,wdC hWF.ok,wdD hWF.ok,fun d hd=>?_⟩
    have k4:=Qf hd (.dK (wkv ks))
    have hN4:=hN3.same k4
    have hR4:=((hW3.same k4).2 kd hkd).2
    refine ⟨_,rfl,_,rfl,ln,_,_,_,rfl,rfl,hN4.l,Zq hn,n.a,_,0,_,rfl,rfl,hN4.a _ _ hn,rfl,d,.ref kd.2.2.1,rfl,Xh Qb hfd,kd.2.2.1,rfl,⟨_,hR4.1⟩,fun acc hacc=>?_⟩
    refine Ys (K:=K) (xs:=kd.2.2.2.map fun t=>V.ref t.1) (cs:=[]) (te:=Zi 0) (fun j ys H'=>∃ us:List PNx,ys=us.map (fun r=>V.ref r.1)∧H' acc=some (.lst ys)∧Same H3 H'∧(∀ r ∈ us,r ∈ kd.2.2.2∧r.2.2.2=[])∧us.length≤j∧∀ (m:Nat) r,m < j→kd.2.2.2[m]?=some r→r.2.2.2=[]→us≠[])
     ⟨[],rfl,Qb,k4.trans (Qf hacc _),fun r hr=>(nomatch hr),Nat.le_refl _,fun m r hm=>absurd hm (10:)⟩ ?_ ?_ ?_
    ·rintro j ys H' _ ⟨_,_,_,g,_⟩
     exact (((hW3.same g).2 kd hkd).2).1
    ·rintro j x ys H8 hj hx ⟨us,rfl,hy,g8,hus,hul,hune⟩
     have hjr:j < kd.2.2.2.length:=by simpa using hj
     obtain rfl:x=.ref kd.2.2.2[j].1:=by
      rw [List.getElem?_map,List.getElem?_eq_getElem hjr] at hx
      exact (Option.some.inj hx).symm
     obtain ⟨hr1,hr2⟩:=(((hW3.same g8).2 kd hkd).2).2 _ (List.getElem_mem hjr)
     have h10:=hro.len
     refine ⟨_,rfl,kd.2.2.2[j].1,_,1,_,rfl,rfl,hr1,rfl,(15:),fun pt hpt=>?_⟩
     have kt:=Qf hpt (.tup [])
     have lay1:(PyData.tuple (kd.2.2.2[j].2.2.2.map PyData.str)).canLay0=true:=by simp only [PyData.canLay0];exact Yc _ (hro.kn _ (List.getElem_mem hjr))
     refine ⟨_,.tuple [],.tup (kt.seqT hr2) (YO _),.tup (SqT.of Qb) .nil,lay1,by simp [PyData.canLay0,PyData.canLayAll0],room _ (22:),_,rfl,?_⟩
     rw [if_neg Bool.false_ne_true,XW]
     refine Zt (fun cb=>?_) (fun cb=>?_)
     ·have he:kd.2.2.2[j].2.2.2=[]:=by simpa using cb
      refine ⟨_,rfl,QB hj (kt _ _ hy) (29:) ⟨us ++ [kd.2.2.2[j]],by rw [List.map_append];rfl,Qb,fun z u e=>?_,fun r hr=>?_,by rw [List.length_append,List.length_singleton];lia,fun _ _ _ _ _=>by simp⟩⟩
      ·rw [Qg (Qi (k4 _ _ e) hacc)];exact kt _ _ (g8 _ _ e)
      ·rcases List.mem_append.mp hr with hr | hr
       ·exact hus r hr
       ·have:r=kd.2.2.2[j]:=by simpa using hr
        rw [this];exact ⟨List.getElem_mem hjr,he⟩
     ·have he:kd.2.2.2[j].2.2.2≠[]:=by simpa using cb
      refine Yi hj ⟨us,rfl,kt _ _ hy,g8.trans kt,hus,by lia,fun m r hm hmr hre=>?_⟩
      by_cases hmj:m=j
      ·subst hmj
       rw [List.getElem?_eq_getElem hjr] at hmr
       obtain rfl:=Option.some.inj hmr
       exact absurd hre he
      ·exact hune m r (10:) hmr hre
    rintro ys H8 ⟨us,rfl,hy,g8,hus,hul,hune⟩
    rw [List.length_map] at hune
    have hue:us≠[]:=by
     obtain ⟨r,hr,hre⟩:=(hWF.kf kd hkd).bare
     obtain ⟨m,hm,e⟩:=List.getElem_of_mem hr
     exact hune m r hm (by rw [List.getElem?_eq_getElem hm,e]) hre
    have hup:0 < us.length:=List.length_pos_iff.mpr hue
    have hN8:=hN3.same g8
    have eul:(us.map fun r=>V.ref r.1).length=us.length:=List.length_map ..
    refine ⟨_,rfl,_,rfl,_,rfl,ln,_,_,_,rfl,rfl,hN8.l,Zq hn,n.a,_,3,_,rfl,rfl,hN8.a _ _ hn,rfl,_,rfl,n.mr,_,rfl,by lia,by lia,fun z z0 z1=>⟨_,rfl,acc,_,rfl,.inl (SqL.of hy),_,_,rfl,rfl,(by rw [eul];lia),?_⟩⟩
    obtain ⟨y,hyn,hat⟩:=Zx (xs:=us.map fun r=>V.ref r.1) (k:=((us.map fun r=>V.ref r.1).length:Int)) rfl (by rw [eul];exact hup) z
    obtain ⟨r,hr,rfl⟩:=List.mem_map.mp hyn
    exact ⟨acc,_,_,_,rfl,rfl,SqL.of hy,hat,_,r,rfl,g8,by rw [erow];exact (hus r hr).1,.inr ⟨rfl,(hus r hr).2⟩⟩
  rintro σ H4 ⟨c5',r,rfl,g4,hrm,hrc⟩
  have hN4:=hN3.same g4
  have hlt4:=g4 _ _ hlt3
  have hR4:RowAt K H4 r:=((((hW.same (g3.trans g4)).2 kd hkd).2).2 r (by rw [← erow];exact hrm))
  refine ⟨_,rfl,r.1,_,0,_,rfl,rfl,hR4.1,rfl,_,rfl,_,rfl,ln,_,_,_,rfl,rfl,hN4.l,Zq hn,n.a,_,3,_,rfl,rfl,hN4.a _ _ hn,rfl,_,rfl,_,rfl,ln,_,_,_,rfl,rfl,hN4.l,Zq hn,n.a,_,4,_,rfl,rfl,hN4.a _ _ hn,rfl,n.cl,rfl,⟨_,hN4.c _ _ hn⟩,fun acc hacc=>?_⟩
  have hlta:lt≠acc:=Qi hlt4 hacc
  have hch:n.ch.length=r.2.2.2.length∧Kid (sg ns) k n r:=by
   rcases hrc with hrow | ⟨hrow,hre⟩
   ·obtain ⟨_,h2,h3⟩:=hAn.ro r hrow
    have:wOf n=r.2.2.2.length:=by unfold wOf;rw [hrow]
    exact ⟨h2.trans this,h3⟩
   ·have hce:=hAn.no hrow
    refine ⟨by rw [hce,hre];rfl,fun a c hac=>?_⟩
    rw [hce] at hac
    simp at hac
  have hrl:r.2.2.2.length≤4:=hro.kl r (by rw [← erow];exact hrm)
  have hul:=hts.length
  refine Ys (K:=K) (xs:=NI n.ch) (cs:=[some (.ref lt)]) (tt:=fun _ H Q=>Q true H) (fun j ys H'=>∃ bs:List (Tree Str),TrAll K H' ys bs∧bs.length=j∧(∀ (a:Nat) b c,bs[a]?=some b→n.ch[a]?=some c→ts[c - (k + 1)]?=some b)∧H' acc=some (.lst ys)∧Same H4 H')
   ⟨[],.nil,rfl,fun a b c h=>by simp at h,Qb,Qf hacc _⟩ ?_ ?_ ?_
  ·rintro j ys H' _ ⟨_,_,_,_,_,g⟩
   exact (hN4.same g).c _ _ hn
  ·rintro j x ys H5 hj hx ⟨bs,hbs,hbl,hbc,hy,g5⟩
   have hjc:j < n.ch.length:=by simpa using hj
   have hcj:n.ch[j]?=some n.ch[j]:=List.getElem?_eq_getElem hjc
   obtain rfl:x=.int ((n.ch[j]:Nat):Int):=by
    rw [List.getElem?_map,hcj] at hx
    exact (Option.some.inj hx).symm
   generalize n.ch[j]=c at hcj
   obtain ⟨hkc,kk,hsg,_⟩:=hch.2 j c hcj
   have hcn:c < ns.length:=by
    have:=(List.getElem?_eq_some_iff.mp hsg).1
    simpa using this
   have htc:ts[c - (k + 1)]?=some ts[c - (k + 1)]:=List.getElem?_eq_getElem (10:)
   generalize ts[c - (k + 1)]=t at htc
   obtain ⟨u,hu,hut⟩:=hts.get htc
   have hyl:=hbs.length
   refine QZ ⟨_,rfl,_,rfl,lt,_,_,_,rfl,rfl,SqL.of (g5 _ _ hlt4),Rg hkc hu,QB hj hy (10:) ⟨bs ++ [t],?_,by rw [List.length_append,List.length_singleton,hbl],fun a b c' h1 h2=>?_,Qb,fun z u e=>?_⟩⟩
   ·exact TrAll.append (hbs.mono fun _ _ h=>h.put hy) (.cons (hut.mono fun _ _ h=>((g4.trans g5).seqT h).put hy) .nil)
   ·rcases QW h1 with ⟨ha,rfl⟩ | ⟨_,h1⟩
    ·rw [ha,hbl,hcj] at h2
     obtain rfl:=Option.some.inj h2
     exact htc
    ·exact hbc a b c' h1 h2
   ·rw [Qg (Qi e hacc)];exact g5 _ _ e
  rintro ys H5 ⟨bs,hbs,hbl,hbc,hy,g5⟩
  have hbl':bs.length=n.ch.length:=by rw [hbl];exact List.length_map ..
  have hyl:=hbs.length
  refine ⟨acc,_,rfl,.inl ⟨SqL.of hy,fun pb hpb=>⟨(21:),fun pt hpt=>?_⟩⟩⟩
  have e1:=Qf hpb (.tup ys)
  have e2:=Qf hpt (.tup [.str r.2.1,.int n.mr,.ref pb])
  have g45:=g4.trans (g5.trans (e1.trans e2))
  have hlt6:=(g5.trans (e1.trans e2)) _ _ hlt4
  refine ⟨_,rfl,_,rfl,lt,_,_,k,rfl,rfl,hlt6,YV (by rw [List.length_append,List.length_replicate];lia),?_⟩
  rw [O1]
  have hT:TrV K (upd (upd H5 pb (.tup ys)) pt (.tup [.str r.2.1,.int n.mr,.ref pb])) (.ref pt) (.node r.2.1 n.mr bs):=.mk (SqT.of Qb) (e2.seqT (SqT.of Qb)) (hbs.mono fun _ _ h=>(e1.trans e2).seqT h) (10:)
  refine ⟨_,_,_,.ref pt :: us,.node r.2.1 n.mr bs :: ts,rfl,fun z u e=>?_,?_,.cons (hT.mono fun _ _ h=>h.put hlt6) (hts.mono fun _ _ h=>(g45.seqT h).put hlt6),by rw [List.length_cons,htl],fun j n' t hn' ht=>?_⟩
  ·rw [Qg (Qi e hlt)];exact g45 _ _ (g3 _ _ e)
  ·rw [Qb,show ns.length - (i + 1)=k by lia]
  ·rw [show ns.length - (i + 1)=k by lia] at hn'
   cases j with
   | succ j =>
    obtain ⟨o1,o2,o3⟩:=hok j n' t (by rw [← hn'];congr 1;lia) (by simpa using ht)
    refine ⟨o1,o2,?_⟩
    rw [show ns.length - (i + 1)=k by lia]
    exact o3.cons
   | zero =>
    obtain rfl:n=n':=by
     rw [Nat.add_zero,hn] at hn'
     exact Option.some.inj hn'
    obtain rfl:Tree.node r.2.1 n.mr bs=t:=by simpa using ht
    have hkid:∀ (a:Nat) b s,bs[a]?=some b→r.2.2.2[a]?=some s→isT (QD ks) b s=true∧lv b + (n.lv + 1)≤top + 1:=fun a b s h1 h2=>by
     have hal:a < n.ch.length:=by rw [← hbl'];exact (List.getElem?_eq_some_iff.mp h1).1
     have hca:n.ch[a]?=some n.ch[a]:=List.getElem?_eq_getElem hal
     generalize n.ch[a]=c at hca
     obtain ⟨hkc,kk,hsg,hkk⟩:=hch.2 a c hca
     rw [h2] at hkk
     obtain rfl:=Option.some.inj hkk
     have hcb:=hbc a b c h1 hca
     unfold sg at hsg
     rw [List.getElem?_map] at hsg
     cases hnc:ns[c]? with
     | none=>rw [hnc] at hsg;cases hsg
     | some m =>
      rw [hnc] at hsg
      have em:(m.kd,m.lv)=(s,n.lv + 1):=Option.some.inj hsg
      have:=hok (c - (k + 1)) m b (by rw [show k + 1 + (c - (k + 1))=c by lia];exact hnc) hcb
      rw [show m.kd=s from congrArg Prod.fst em,show m.lv=n.lv + 1 from congrArg Prod.snd em] at this
      exact ⟨this.1,this.2.1⟩
    have hbr:r.2.2.2.length=bs.length:=by rw [hbl',hch.1]
    refine ⟨?_,?_,?_⟩
    ·rw [Ub (QD ks) rfl,JY (by rw [erow];exact hro) hrm]
     simp only [Bool.and_eq_true,decide_eq_true_eq]
     exact ⟨hbr,Xz hbr fun a b s h1 h2=>(hkid a b s h1 h2).1⟩
    ·rw [Zg]
     have hl2:=hAn.l2
     have:lvs bs≤top - n.lv:=Vm fun b hb=>by
      obtain ⟨a,ha,e⟩:=List.getElem_of_mem hb
      have:=(hkid a b _ (by rw [List.getElem?_eq_getElem ha,e]) (List.getElem?_eq_getElem (10:))).2
      lia
     show 1 + lvs bs + n.lv≤top + 1
     lia
    ·rw [show ns.length - (i + 1)=k by lia]
     refine ⟨hbl',fun a b c h1 h2=>?_,r.2.2.2,JY (by rw [erow];exact hro) hrm,fun j c hj=>by
      obtain ⟨_,kk,z1,z2⟩:=hch.2 j c hj
      exact ⟨kk,_,z1,z2⟩⟩
     obtain ⟨hkc,_⟩:=hch.2 a c h2
     refine ⟨by lia,?_⟩
     rw [show c - k=(c - (k + 1))+1 by lia,List.getElem?_cons_succ]
     exact hbc a b c h1 h2
 ·rintro σ H3 ⟨c3,c4,c5,us,ts,rfl,g3,hlt3,hts,htl,hok⟩
  rw [Nat.sub_self] at hlt3 hok
  exact ⟨_,rfl,q lt H3 us ts g3 (SqL.of hlt3) hts htl fun j n t hn ht=>by
   have:=hok j n t (by rw [Nat.zero_add];exact hn) ht
   have h1:=(hA _ _ hn).l1
   have h2:=this.2.1
   have h3:=this.2.2
   rw [Nat.zero_add] at h3
   exact ⟨this.1,h2,h3⟩⟩
end
end K25
namespace K25
open PySem L2 TM TT K9 K11
def Ze (k:KdT):Str × List PNx:=(k.2.1,k.2.2.2)
theorem Wq {hs ks:List KdT} (e:hs.map Ze=ks.map Ze) (z:Str):Qy hs z=Qy ks z:=by
 have aux:∀ l:List KdT,Qy l z=(((l.map Ze).find? fun p=>decide (p.1=z)).map (·.2)).getD []:=fun l=>by
  unfold Qy
  rw [List.find?_map,Option.map_map]
  rfl
 rw [aux,aux,e]
theorem Ng {hs ks:List KdT} (e:hs.map Ze=ks.map Ze):QD hs=QD ks:=by
 funext k n
 unfold QD
 rw [Wq e]
theorem WoodOk.of {hs ks:List KdT} (h:WoodOk ks) (e:hs.map Ze=ks.map Ze):WoodOk hs:=by
 have e1:(hs.map fun k=>k.2.1)=ks.map fun k=>k.2.1:=by
  have:=congrArg (List.map Prod.fst) e
  rw [List.map_map,List.map_map] at this
  exact this
 refine ⟨by rw [e1];exact h.nd,?_,fun k hk=>?_⟩
 ·have:=congrArg List.length e
  rw [List.length_map,List.length_map] at this
  rw [this];exact h.len
 ·have hm:Ze k ∈ ks.map Ze:=by rw [← e];exact List.mem_map.mpr ⟨k,hk,rfl⟩
  obtain ⟨k',hk',e'⟩:=List.mem_map.mp hm
  have:k'.2.2.2=k.2.2.2:=congrArg (fun p:Str × List PNx=>p.2) e'
  rw [← this]
  exact h.rows k' hk'
theorem TurnOk.of {T:Tu} {ms ms':List MdT} {hs:List KdT} (h:TurnOk ms T) (e:hs.map Ze=T.ks.map Ze) (em:mds ms'=mds ms):TurnOk ms' { T with ks:=hs }:=by
 refine ⟨WoodOk.of h.wo e,em.trans h.me,⟨fun m hm=>?_,h.ok.st⟩,?_⟩
 ·have:=h.ok.rf m hm
  unfold ZN at this ⊢
  rw [show ({ T with ks:=hs }:Tu).ks=hs from rfl,Wq e]
  exact this
 ·obtain ⟨k,hk,hkk⟩:=h.k0
  have h1:(hs.map Ze)[0]?=some (Ze k):=by rw [e,List.getElem?_map,hk];rfl
  rw [List.getElem?_map] at h1
  cases hh:hs[0]? with
  | none=>rw [hh] at h1;cases h1
  | some k' =>
   rw [hh] at h1
   have e2:Ze k'=Ze k:=Option.some.inj h1
   exact ⟨k',rfl,(congrArg Prod.fst e2).trans hkk⟩
def WP (K:PySem.W.Frag):Sp:=fun vs H Q _=>∃ (tu wd lm:Addr) (sv:V) (ms:List MdT) (T:Tu),vs=[.ref tu]∧TurnAt K H tu wd lm sv ms T∧WoodOk T.ks∧ms.length≤10 ∧
 ∀ (tu' wd' lm':Addr) (hs:List KdT) (ms':List MdT) (H':Hp),Same H H'→TurnAt K H' tu' wd' lm' sv ms' { T with ks:=hs }→hs.map Ze=T.ks.map Ze→mds ms'=mds ms→Q (.ref tu') H'
abbrev XD (K:PySem.W.Frag):List V→Hp→VK→Prop:=fun xs H Q=>∃ p ys,xs=[.ref p]∧(SqL K H p ys∨SqT K H p ys)∧∀ l,H l=none→Q (.ref l) (upd H l (.lst ys))
section
variable {P:Program} {w:World} {K:PySem.W.Frag} {mg:Str→Option Value} {base:Heap} {f:Addr} {fd:FuncData}
theorem Mf:FnScope ["_law_turning_here", "_law_wood_here"] ["_law_turning_here"] (defScope LX):=(1:)
theorem Na (F:Fun K "_law_copy" "_law_copy" LX f fd) (G:Gm mg):FnOk P w K mg base CX0 1 f fd ["_law_turning_here"] (WP K):=by
 refine F.ok Mf (8:) (4:)
 ·obtain ⟨tu,wd,lm,sv,ms,T,rfl,_⟩:=h
  rfl
 obtain ⟨tu,wd,lm,sv,ms,T,rfl,hT,hO,hm10,q⟩:=h
 refine ⟨_,(Qe (ZV (i:=1) (33:) rfl (QT (25:)) (Wp (33:) rfl) (fun _ _ _ _=>Q2) (fun _ _ _ _=>(Qz (Qa (pv 0) (Qa (Qx (r:=XD K) ZP rfl G.lst PyProof.Rows.boot_list (56:)) Qc)))) Mf.nd rfl rfl)
  (Qh (Qp (Qz (Qa (pv 1) (Qa (25:) (Qa (QP (CompG.many (xs:=["_law_kind", "_law_rules"]) (caps:=[]) (cap:=[]) (cs:=[]) rfl rfl (0:) (0:) (0:) (0:) (0:) (0:) rfl rfl rfl) rfl (QT (25:)) (Wp (CompG.many (xs:=["_law_kind", "_law_rules"]) (caps:=[]) (cap:=[]) (cs:=[]) rfl rfl (0:) (0:) (0:) (0:) (0:) (0:) rfl rfl rfl) rfl) (fun _ _ _ _=>Q2) (fun _ _ _ _=>(Qz (Qa (pv 0) (Qa (Qx (r:=XD K) ZP rfl G.lst PyProof.Rows.boot_list (56:)) Qc))))) Qc))))))),?_⟩
 refine ⟨_,rfl,tu,_,0,_,rfl,rfl,hT.tu,rfl,wd,rfl,⟨_,hT.w.1⟩,fun lx hlx=>?_⟩
 refine Xp (K:=K) (xs:=T.ks.map fun k=>V.ref k.1) (cs:=[]) (tt:=fun _ H Q=>Q true H) (te:=MW (Q0 (Zi 0) (Q0 (tCB (XD K) (Q0 (Zi 1) Jf)) Jf))) (fun j ys H'=>∃ hs:List KdT,ys=hs.map (fun k=>V.ref k.1)∧hs.map Ze=(T.ks.take j).map Ze∧(∀ k ∈ hs,SqT K H' k.1 [.str k.2.1,.ref k.2.2.1]∧(H' k.2.2.1=some (.lst (k.2.2.2.map fun t=>V.ref t.1))∧k.2.2.1≠lx)∧∀ t ∈ k.2.2.2,RowAt K H' t)∧H' lx=some (.lst ys)∧Same H H')
  ⟨[],rfl,rfl,fun k hk=>(nomatch hk),Qb,Qf hlx _⟩ ?_ ?_ ?_
 ·rintro j ys H' _ ⟨hs,_,_,_,_,g⟩
  exact (hT.w.same g).1
 ·rintro j x ys H' hj hx ⟨hs,rfl,hkey,hat,hya,g⟩
  have hjk:j < T.ks.length:=by simpa using hj
  obtain rfl:x=.ref T.ks[j].1:=by
   rw [List.getElem?_map,List.getElem?_eq_getElem hjk] at hx
   exact (Option.some.inj hx).symm
  obtain ⟨hk1,hkr⟩:=(hT.w.same g).2 _ (List.getElem_mem hjk)
  have hhl:hs.length=j:=by
   have:=congrArg List.length hkey
   rw [List.length_map,List.length_map,List.length_take] at this
   lia
  have hkl:=hO.len
  refine ⟨T.ks[j].1,_,_,rfl,hk1,QZ ⟨_,rfl,_,rfl,T.ks[j].2.2.1,_,rfl,.inl hkr.1,fun l2 hl2=>⟨(44:),fun p2 hp2=>?_⟩⟩⟩
  have e1:=Qf hl2 (.lst (T.ks[j].2.2.2.map fun t=>V.ref t.1))
  have e2:=Qf hp2 (.tup [.str T.ks[j].2.1,.ref l2])
  have e12:=e1.trans e2
  have hya2:=e12 _ _ hya
  have hl2x:l2≠lx:=fun z=>by rw [z,hya] at hl2;cases hl2
  refine QB (ys:=hs.map fun k=>V.ref k.1) hj hya2 (29:) ⟨hs ++ [(p2,T.ks[j].2.1,l2,T.ks[j].2.2.2)],by simp,?_,fun k hk=>?_,Qb,fun x u e=>by rw [Qg (Qi e hlx)];exact e12 _ _ (g _ _ e)⟩
  ·rw [List.map_append,hkey,List.take_add_one,List.getElem?_eq_getElem hjk,List.map_append]
   rfl
  ·rcases List.mem_append.mp hk with z | z
   ·obtain ⟨a1,⟨a2,a3⟩,a4⟩:=hat k z
    exact ⟨(e12.seqT a1).put hya2,⟨by rw [Qg a3];exact e12 _ _ a2,a3⟩,fun t ht=>⟨(e12.seqT (a4 t ht).1).put hya2,(e12.seqT (a4 t ht).2).put hya2⟩⟩
   ·have:k=(p2,T.ks[j].2.1,l2,T.ks[j].2.2.2):=by simpa using z
    rw [this]
    refine ⟨SqT.put (SqT.of Qb) hya2,⟨by rw [Qg hl2x];exact e2 _ _ Qb,hl2x⟩,fun t ht=>⟨(e12.seqT (hkr.2 t ht).1).put hya2,(e12.seqT (hkr.2 t ht).2).put hya2⟩⟩
 rintro ys H1 ⟨hs,rfl,hkey,hat,hya,g1⟩
 rw [List.length_map,List.take_length] at hkey
 have hWH:WoodAt K H1 lx hs:=⟨SqL.of hya,fun k hk=>by
  obtain ⟨a1,⟨a2,_⟩,a4⟩:=hat k hk
  exact ⟨a1,SqL.of a2,a4⟩⟩
 have hT1:=hT.same g1
 refine ⟨_,rfl,_,rfl,tu,_,1,_,rfl,rfl,hT1.tu,rfl,_,rfl,tu,_,2,_,rfl,rfl,hT1.tu,rfl,lm,rfl,⟨_,hT1.m.1⟩,fun ly hly=>?_⟩
 refine Xp (K:=K) (xs:=ms.map fun k=>V.ref k.1) (cs:=[]) (tt:=fun _ H Q=>Q true H) (te:=MW (Q0 (Zi 0) (Q0 (tCB (XD K) (Q0 (Zi 1) Jf)) Jf))) (fun j ys H'=>∃ ns:List MdT,ys=ns.map (fun k=>V.ref k.1)∧ns.map MdT.md=(ms.take j).map MdT.md∧(∀ m ∈ ns,SqT K H' m.1 [.str m.2.1,.ref m.2.2.1]∧(H' m.2.2.1=some (.lst m.2.2.2.1)∧m.2.2.1≠ly)∧TmAll K H' m.2.2.2.1 m.2.2.2.2)∧H' ly=some (.lst ys)∧Same H1 H')
  ⟨[],rfl,rfl,fun k hk=>(nomatch hk),Qb,Qf hly _⟩ ?_ ?_ ?_
 ·rintro j ys H' _ ⟨hs,_,_,_,_,g⟩
  exact (hT1.m.same g).1
 ·rintro j x ys H' hj hx ⟨ns,rfl,hkm,hat,hyb,g⟩
  have hjk:j < ms.length:=by simpa using hj
  obtain rfl:x=.ref ms[j].1:=by
   rw [List.getElem?_map,List.getElem?_eq_getElem hjk] at hx
   exact (Option.some.inj hx).symm
  obtain ⟨hk1,hk2,hk3⟩:=(hT1.m.same g).2 _ (List.getElem_mem hjk)
  have hhl:ns.length=j:=by
   have:=congrArg List.length hkm
   rw [List.length_map,List.length_map,List.length_take] at this
   lia
  refine ⟨ms[j].1,_,_,rfl,hk1,QZ ⟨_,rfl,_,rfl,ms[j].2.2.1,_,rfl,.inl hk2,fun l2 hl2=>⟨(44:),fun p2 hp2=>?_⟩⟩⟩
  have e1:=Qf hl2 (.lst ms[j].2.2.2.1)
  have e2:=Qf hp2 (.tup [.str ms[j].2.1,.ref l2])
  have e12:=e1.trans e2
  have hyb2:=e12 _ _ hyb
  have hl2x:l2≠ly:=fun z=>by rw [z,hyb] at hl2;cases hl2
  refine QB (ys:=ns.map fun k=>V.ref k.1) hj hyb2 (29:) ⟨ns ++ [(p2,ms[j].2.1,l2,ms[j].2.2.2.1,ms[j].2.2.2.2)],by simp,?_,fun k hk=>?_,Qb,fun x u e=>by rw [Qg (Qi e hly)];exact e12 _ _ (g _ _ e)⟩
  ·rw [List.map_append,hkm,List.take_add_one,List.getElem?_eq_getElem hjk,List.map_append]
   rfl
  ·rcases List.mem_append.mp hk with z | z
   ·obtain ⟨a1,⟨a2,a3⟩,a4⟩:=hat k z
    exact ⟨(e12.seqT a1).put hyb2,⟨by rw [Qg a3];exact e12 _ _ a2,a3⟩,a4.mono fun _ _ h=>(e12.seqT h).put hyb2⟩
   ·have:k=(p2,ms[j].2.1,l2,ms[j].2.2.2.1,ms[j].2.2.2.2):=by simpa using z
    rw [this]
    exact ⟨SqT.put (SqT.of Qb) hyb2,⟨by rw [Qg hl2x];exact e2 _ _ Qb,hl2x⟩,hk3.mono fun _ _ h=>(e12.seqT h).put hyb2⟩
 rintro ys H2 ⟨ns,rfl,hkm,hat2,hyb,g2⟩
 rw [List.length_map,List.take_length] at hkm
 refine ⟨(21:),fun p hp=>?_⟩
 have k3:=Qf hp (.tup [.ref lx,sv,.ref ly])
 have g23:=g2.trans k3
 exact q p lx ly hs ns _ (g1.trans g23) ⟨SqT.of Qb,hWH.same g23,⟨SqL.of (k3 _ _ hyb),fun m hm=>by
  obtain ⟨a1,⟨a2,_⟩,a4⟩:=hat2 m hm
  exact ⟨k3.seqT a1,SqL.of (k3 _ _ a2),a4.mono fun _ _=>k3.seqT⟩⟩,hT1.s.mono fun _ _=>g23.seqT⟩ hkey hkm
end
end K25
namespace L2
open PySem
def SameX (x:Addr) (H H':Hp):Prop:=∀ b u,b≠x→H b=some u→H' b=some u
theorem SameX.trans {x:Addr} {H H1 H2:Hp} (a:SameX x H H1) (b:SameX x H1 H2):SameX x H H2:=fun c u n e=>b c u n (a c u n e)
theorem SameX.of {x:Addr} {H H':Hp} (h:Same H H'):SameX x H H':=fun b u _ e=>h b u e
theorem SameX.upd {x:Addr} {H:Hp} {o:HO}:SameX x H (upd H x o):=fun b u n e=>by rw [Qg n];exact e
end L2
namespace L2
open PySem PySem.Spec PyProof.Rows
def Nf (e:Expr):Arguments:=match e with
 | .Lambda a _ _ _=>a
 | _=>{ posonlyargs:=[],args:=[],vararg:=none,kwonlyargs:=[],kw_defaults:=[],kwarg:=none,defaults:=[] }
def Vt (e:Expr):Expr:=match e with
 | .Lambda _ b _ _=>b
 | _=>e
def Q1 (e:Expr):Scope:=match e with
 | .Lambda _ _ s _=>s
 | _=>{ kind:=.function,names:=[],isGenerator:=false,isCoroutine:=false }
def Zy (e:Expr):Pos:=match e with
 | .Lambda _ _ _ p=>p
 | _=>⟨0,0,0,0⟩
def MZ (s:Stmt):Expr:=match (defBody s).getLast? with
 | some (.Return (some e) _)=>e
 | _=>.Name "" ⟨0,0,0,0⟩
def G7 (e:Expr) (i:Nat):Expr:=match e with
 | .Call _ as _ _=>as.getD i e
 | _=>e
abbrev JF (qual:Str) (e:Expr) (pm:Value) (c:Addr) (ctv:Value):FuncData:=PySem.W.kla_fn "<lambda>" qual (Nf e) (Vt e) (Q1 e) [] pm (.ref c) ctv
def Gr (f:Addr) (fd:FuncData):HO:=.ext fun h=>h.get? f=some { cls:=.type "function", data:=.func fd }
def M9 (c:Addr) (qual:Str):HO:=.ext fun h=>h.CodeRec (.ref c) qual
structure LamAt (H:Hp) (f:Addr) (e:Expr):Prop where
 ex:∃ qual pm c ctv,H f=some (Gr f (JF qual e pm c ctv))∧H c=some (M9 c qual)
theorem LamAt.same {H H':Hp} {f:Addr} {e:Expr} (g:Same H H') (h:LamAt H f e):LamAt H' f e:=by
 obtain ⟨q,pm,c,ctv,h1,h2⟩:=h.ex
 exact ⟨q,pm,c,ctv,g _ _ h1,g _ _ h2⟩
def TbS (H:Hp) (T:Addr) (pos:Pos) (qual:Str):Prop:=H T=some (.tbl #[])∨∃ c,H T=some (.tbl #[rawInt pos.line,rawInt pos.col,.ref c])∧H c=some (M9 c qual)
theorem TbS.at {H:Hp} {T:Addr} {pos:Pos} {qual:Str} (h:TbS H T pos qual):∃ ps,H T=some (.tbl ps):=by
 rcases h with h | ⟨c,h,_⟩
 ·exact ⟨_,h⟩
 ·exact ⟨_,h⟩
theorem TbS.same {H H':Hp} {T:Addr} {pos:Pos} {qual:Str} (g:Same H H') (h:TbS H T pos qual):TbS H' T pos qual:=by
 rcases h with h | ⟨c,h,h2⟩
 ·exact .inl (g _ _ h)
 ·exact .inr ⟨c,g _ _ h,g _ _ h2⟩
theorem TbS.sameX {H H':Hp} {T U:Addr} {pos:Pos} {qual:Str} {ps:Array Value} (hU:H U=some (.tbl ps)) (ne:T≠U) (g:SameX U H H') (h:TbS H T pos qual):TbS H' T pos qual:=by
 rcases h with h | ⟨c,h,h2⟩
 ·exact .inl (g _ _ ne h)
 ·exact .inr ⟨c,g _ _ ne h,g _ _ (QS h2 hU (32:)) h2⟩
def U1 (mg:Str→Option Value) (base:Heap):Prop:=∃ bm o,mg "__builtins__" = some (.ref bm)∧bm≠builtinsNs∧bm≠mainGlobals∧base.get? bm=some o∧o.cls=.type "module" ∧ o.dict=some builtinsNs∧o.data=.plain
def Sr (T:Addr) (qual:Str) (e:Expr):TE:=fun σ H Q=>TbS H T (Zy e) qual∧∀ f H',SameX T H H'→H f=none→LamAt H' f e→TbS H' T (Zy e) qual→Q (.ref f) H'
section
variable {X:Cx}
theorem VN {P:Program} {w:World} {H:Hp} {h:Heap} {f:Addr} {fd:FuncData} (e:h.get? f=some { cls:=.type "function", data:=.func fd }):ObjOk P w H h f (Gr f fd):=⟨e,⟨_,e⟩,fun _ _ e1 k=>k _ e1⟩
theorem Oc {P:Program} {w:World} {H:Hp} {h:Heap} {c:Addr} {qual:Str} (e:h.CodeRec (.ref c) qual):ObjOk P w H h c (M9 c qual):=by
 refine ⟨e,?_,fun h1 h2 e1 k=>?_⟩
 ·obtain ⟨c',oc,vs,tq,z,hoc,_⟩:=e
  cases z
  exact ⟨_,hoc⟩
 ·obtain ⟨c',oc,vs,tq,z,hoc,r⟩:=e1
  cases z
  exact ⟨c,oc,vs,tq,rfl,k _ hoc,r⟩
theorem W5 {a:Arguments} {b:Expr} {sc:Scope} {pos:Pos} {c T:Addr} (hcode:X.env.code=.ref c) (hC:PySem.W.codeHdIn X.K c T=true) (hB:U1 X.mg X.base) (hcl:closureFor sc X.env=pure []:=by rfl) (hdef:defaultsOf a X.env=([],[]):=by rfl) :
 PE X (.Lambda a b sc pos) (Sr T (X.env.qual ++ "<lambda>") (.Lambda a b sc pos)):=by
 intro pins s σ H Q I h
 obtain ⟨ht,q⟩:=h
 obtain ⟨ps0,hT⟩:=ht.at
 obtain ⟨bm,ob,b1,b2,b3,b4,b5,b6,b7⟩:=hB
 have hbT:bm≠T:=fun z=>by have:=(I.bs _ _ b4).2;rw [z,hT] at this;cases this
 have hg:s.heap.Ns mainGlobals X.mg:=I.mod.glob.keeps I.bk
 have hgT:mainGlobals≠T:=fun z=>by
  obtain ⟨o,es,ep,e,_⟩:=I.mod.glob
  have:=(I.bs _ _ e).2
  rw [z,hT] at this;cases this
 have hb:s.heap.BuiltinsAt X.mg T:=⟨bm,ob,b1,b2,b3,hbT,I.bk _ _ b4,b5,b6,b7⟩
 have hCd:PySem.W.CodeHd s.heap c T:=PySem.W.codeHd_of_K I.kIn hC
 have hLT:X.env.locals≠T:=fun z=>by have:=I.free;rw [z,hT] at this;cases this
 refine PySem.W.kla_eval hdef ?_
 rcases ht with h0 | ⟨c',h0,hc'⟩
 ·have hP:s.heap.get? T=some (PySem.W.tabObj #[]):=I.hok T _ h0
  refine PySem.W.kla_makeFunction (mg:=X.mg) hcl I.ok.glob hg hcode hCd hP trivial rfl hgT hb fun c' ctv h' tk hx hge hlt hrec htb=>?_
  obtain ⟨qual,hqual⟩ : ∃ qual,qual=X.env.qual ++ "<lambda>" := (54:)
  rw [← hqual] at hrec ⊢
  have hHc:H c'=none:=I.hok.fresh hge
  have hHf:H h'.objs.size=none:=I.hok.fresh (Nat.le_of_lt (Nat.lt_of_le_of_lt hge hlt))
  have nTc:T≠c':=Qi h0 hHc
  have nTf:T≠h'.objs.size:=Qi h0 hHf
  have ncf:c'≠h'.objs.size:=Nat.ne_of_lt hlt
  obtain ⟨fd,hfd⟩ : ∃ fd:FuncData,fd=JF qual (.Lambda a b sc pos) ((X.mg "__name__").getD .none) c' ctv:=(54:)
  have hob:PySem.W.kla_obj "<lambda>" qual a b sc [] ((X.mg "__name__").getD .none) c' ctv={ cls:=.type "function", data:=.func fd }:=by rw [hfd];rfl
  rw [hob]
  obtain ⟨ps,hps⟩ : ∃ ps:Array Value,ps=#[rawInt pos.line,rawInt pos.col,.ref c']:=(54:)
  have htb':h'.get? T=some { cls:=.none,data:=.fields ps }:=by rw [hps];exact htb
  obtain ⟨H',hH'⟩ : ∃ H':Hp,H'=upd (upd (upd H T (.tbl ps)) c' (M9 c' qual)) h'.objs.size (Gr h'.objs.size fd):=(54:)
  have eF:H' h'.objs.size=some (Gr h'.objs.size fd):=by rw [hH'];exact Qb
  have eC:H' c'=some (M9 c' qual):=by rw [hH',Qg ncf];exact Qb
  have eT:H' T=some (.tbl ps):=by rw [hH',Qg nTf,Qg nTc];exact Qb
  have eO:∀ x,x≠T→x≠c'→x≠h'.objs.size→H' x=H x:=fun x n1 n2 n3=>by rw [hH',Qg n3,Qg n2,Qg n1]
  have eK:∀ x u,H x=some u→x≠T→H' x=some u:=fun x u e n1=>by rw [eO x n1 (Qi e hHc) (Qi e hHf)];exact e
  have hpush:∀ x o,h'.get? x=some o→(h'.push { cls:=.type "function", data:=.func fd }).get? x=some o:=fun x o e=>Heap.get?_push_of_some _ e
  have J:Inv X pins σ H' { s with heap:=h'.push { cls:=.type "function", data:=.func fd },toks:=tk }:=by
   refine I.step (g':=s.gens) (d':=s.drawn) (ch:=[]) (fun _ z=>nomatch z) (fun x o _ _ _ e n=>?_) (fun x o _ _ _ e n=>?_) (fun x o _ e n=>?_) (fun x o _ e=>?_) (fun x xs e=>?_) (fun x o u e=>?_) (fun x qs e=>?_) (fun m hn=>?_) (fun x o e=>?_) I.bare
   ·exact hpush _ _ (hx _ _ (fun z=>by rw [z,hT] at n;cases n) e)
   ·exact ⟨o.slots,hpush _ _ (hx _ _ (fun z=>by rw [z,hT] at n;cases n) e)⟩
   ·have lx:=Heap.lt_size e
    rw [eO x (fun z=>by rw [z,hT] at n;cases n) (Nat.ne_of_lt (Nat.lt_of_lt_of_le lx hge)) (Nat.ne_of_lt (Nat.lt_trans (Nat.lt_of_lt_of_le lx hge) hlt))]
    exact n
   ·by_cases z:x=T
    ·exact ⟨_,hpush _ _ (z ▸ htb')⟩
    ·exact ⟨o,hpush _ _ (hx _ _ z e)⟩
   ·exact eK x _ e (QS e h0 (32:))
   ·exact eK x _ e (QS e h0 (32:))
   ·by_cases z:x=T
    ·subst z
     rw [h0] at e
     cases e
     exact ⟨ps,by rw [eT];simp⟩
    ·exact ⟨#[],by rw [eK x _ e z];simp⟩
   ·exact (hn.extBut hx hLT).push _
   ·by_cases z1:x=h'.objs.size
    ·subst z1
     rw [eF] at e
     cases e
     exact VN (46:)
    by_cases z2:x=c'
    ·subst z2
     rw [eC] at e
     cases e
     refine Oc ?_
     obtain ⟨c2,oc,vs,tq,z,hoc,r⟩:=hrec
     exact ⟨c2,oc,vs,tq,z,hpush _ _ hoc,r⟩
    by_cases z3:x=T
    ·subst z3
     rw [eT] at e
     cases e
     exact hpush _ _ htb'
    rw [eO x z3 z2 z1] at e
    refine (I.hok x o e).stay (fun y u hy r=>?_) (fun y r=>?_) fun y xs r=>?_
    ·refine hpush _ _ (hx _ _ (fun z=>?_) r)
     rcases hy with hy | hy
     ·exact z3 (hy.symm.trans z)
     ·rw [z,hT] at hy;cases hy
    ·exact eK y _ r (QS r h0 (32:))
    ·exact eK y _ r (QS r h0 (32:))
  refine ⟨.ref h'.objs.size,H',J,rfl,q h'.objs.size H' (fun x u n e=>eK x u e n) hHf ⟨qual,_,c',ctv,by rw [eF,hfd],eC⟩ ?_⟩
  refine .inr ⟨c',?_,by rw [← hqual];exact eC⟩
  rw [eT,hps];rfl
 ·have hP:s.heap.get? T=some (PySem.W.tabObj #[rawInt pos.line,rawInt pos.col,.ref c']):=I.hok T _ h0
  have hf:codeAmong pos (#[rawInt pos.line,rawInt pos.col,Value.ref c']:Array Value).toList=some (.ref c'):=by
   show (if ((pos.line:Int) == (pos.line:Int) && (pos.col:Int) == (pos.col:Int))=true then some (Value.ref c') else _)=_
   simp
  refine PySem.W.kla_makeFunctionHit (mg:=X.mg) hcl I.ok.glob hg hcode hCd hP trivial hf hb fun ctv h' tk hk hsz=>?_
  obtain ⟨qual,hqual⟩ : ∃ qual,qual=X.env.qual ++ "<lambda>" := (54:)
  rw [← hqual]
  have hHf:H h'.objs.size=none:=I.hok.fresh hsz
  refine ⟨.ref h'.objs.size,upd H h'.objs.size (Gr h'.objs.size (JF qual (.Lambda a b sc pos) ((X.mg "__name__").getD .none) c' ctv)),I.laid (t':=tk) (fun x o e=>Heap.get?_push_of_some _ (hk _ _ e)) hsz (VN (46:)),rfl,?_⟩
  have g:=Qf hHf (Gr h'.objs.size (JF qual (.Lambda a b sc pos) ((X.mg "__name__").getD .none) c' ctv))
  refine q h'.objs.size _ (SameX.of g) hHf ⟨qual,_,c',ctv,Qb,g _ _ (by rw [hqual];exact hc')⟩ (.inr ⟨c',g _ _ h0,g _ _ hc'⟩)
end
end L2
namespace L2
open PySem PySem.Spec PyProof.Rows
def W0 (P:Program) (w:World) (K:PySem.W.Frag) (mg:Str→Option Value) (base:Heap) (k:Nat) (e:Expr) (sp:Sp):Prop :=
 ∀ (f:Addr) (A:Around) (outer:List Env) (s:Shared) (H:Hp) (us:List Value) (vs:List V) (Q:VK) (E:XK),Room k A→Env0 P w K mg base A outer s H→LamAt H f e→Vals vs us→sp vs H Q E →
  codeAny (model P w) A (.call (.ref f) ⟨us,[]⟩) (CR CX0 outer P w H s Q E) s
theorem Xo {P:Program} {w:World} {K:PySem.W.Frag} {mg:Str→Option Value} {base:Heap} {k:Nat} {e:Expr} {N ps:List Str} {sp:Sp} (S:FnScope N ps (Q1 e)) (len:∀ vs H Q E,sp vs H Q E→vs.length=ps.length)
 (hbind:∀ (qual:Str) (pm:Value) (c:Addr) (ctv:Value) (us:List Value),us.length=ps.length→bindArgs (JF qual e pm c ctv) ⟨us,[]⟩=pure (ps.zip us))
 (hbody:∀ (qual:Str) (f c:Addr) (A:Around) (outer:List Env) (s:Shared) (H:Hp) (vs:List V) (Q:VK) (E:XK),Room k (A.deeper (envOfC qual (Q1 e) s.heap.objs.size f (.ref c)))→sp vs H Q E →
  ∃ t,PE (Z4 CX0 P w K mg base N qual (Q1 e) f (.ref c) A outer s H E).nox (Vt e) t∧t (start N vs) H Q):W0 P w K mg base (k + 1) e sp:=by
 intro f A outer s H us vs Q E hr e0 hL r hsp
 obtain ⟨qual,pm,c,ctv,hf,hc⟩:=hL.ex
 have hfo:s.heap.get? f=some { cls:=.type "function", data:=.func (JF qual e pm c ctv) }:=(e0.hok f _ hf).1
 have hrec:s.heap.CodeRec (.ref c) qual:=(e0.hok c _ hc).1
 have hl:=len _ _ _ _ hsp
 have hul:us.length=ps.length:=by rw [← r.length];exact hl
 have lim:s.heap.NoLimit:=e0.mod.nolimit.keeps fun b o e=>(e0.bs b o e).1
 have hkind:∀ y ∈ ps.zip us,(Q1 e).names.lookup y.1=some .local∨((Q1 e).names.lookup y.1=some .cell∧((cellsFrom (s.heap.objs.size + 1) (Q1 e).names []).lookup y.1).isSome=true):=fun ⟨n,v⟩ hy=>by
  rcases S.par n (List.of_mem_zip hy).1 with q | q
  ·exact .inl q
  ·exact .inr ⟨q,PySem.W.cellsFrom_some _ _ _ (.inl q)⟩
 refine PySem.W.kla_callFunE hr.depth hfo rfl S.co S.gen rfl hrec ?_
 rw [hbind qual pm c ctv us hul]
 refine wpAny_pure ?_
 refine wpAny_newFunctionEnv_cells S.kind hkind fun env he s1 x=>?_
 subst he
 refine ⟨lim.keeps x.toInCall.keep,PySem.W.kla_codeExpr ?_⟩
 obtain ⟨t,ht,hq⟩:=hbody qual f c A outer s H vs Q E (hr.deeper _) hsp
 have I:Inv (Z4 CX0 P w K mg base N qual (Q1 e) f (.ref c) A outer s H E) [] (start N vs) H s1:=Jz S hr.hd e0 hl r x
 refine wpAny_mono (ht.nox [] s1 (start N vs) H _ I hq) (fun u s' hs=>?_) fun e s' hs=>hs
 obtain ⟨v,H',J,rv,q⟩:=hs
 exact ⟨v,H',J.os,J.bare,J.base,J.hok,rv,q⟩
def O9 (i:Nat) (e:Expr) (sp:Sp) (t:TA):TE:=fun σ H Q=>∃ f,σ[i]?=some (some (.ref f))∧t σ H fun vs H1=>LamAt H1 f e∧sp vs H1 Q E0
section
variable {X:Cx}
theorem MH {i:Nat} {x:Str} {e a:Expr} {as:List Expr} {t:TA} {sp:Sp} {k:Nat} {p pos:Pos} (C:W0 X.prog X.w X.K X.mg X.base k e sp) (hr:Room k X.A) (ha:PA X (a :: as) t) (hN:X.N[i]?=some x:=by rfl) (hv:Vis X.env.scope x:=by first | exact Or.inl rfl | exact Or.inr (12:) | exact Or.inr (Or.inr rfl))
 (hd:(41:)=false:=by decide) (hcd:(x == ("__classdict__" : Str))=false:=by decide) (he:starEach (a :: as) X.env=(false,eval a X.env) :: starEach as X.env:=by rfl) (hpl:(backTo pos (starEach as X.env)).any (·.1)=false:=by rfl) :
 PE X (.Call (.Name x p) (a :: as) [] pos) (O9 i e sp t):=by
 intro pins s σ H Q I h
 obtain ⟨f,hs,h⟩:=h
 refine wpAny_Call_Name_kw (thn (Lw (pos:=p) hN hv hd hcd pins s σ H (fun v H1=>v=.ref f∧H1=H) I ⟨.ref f,hs,rfl,rfl⟩) fun u s1 ⟨v,H1,I1,r1,ev,eH⟩=>?_)
 subst ev eH
 obtain rfl:u=Value.ref f:=r1
 have hw:wpAny (6:) X.A (spliced (backTo pos (starEach (a :: as) X.env))) (fun vs s₁=>(∃ fd,s₁.heap.get? f=some { cls:=.type "function", data:=.func fd })∧wpAny (6:) X.A (call (.ref f) ([] ++ vs)) (EP X pins σ Q) X.xe s₁) X.xe s1:=by
  refine thn (ha pos pins s1 σ H1 _ I1 h) fun us s2 ⟨vs,H2,I2,r2,hL,q2⟩=>⟨?_,?_⟩
  ·obtain ⟨qual,pm,c,ctv,hf,hc⟩:=hL.ex
   exact ⟨_,(I2.hok f _ hf).1⟩
  ·refine wpAny_call (codeAny_mono (C f X.A X.stack s2 H2 us vs Q E0 hr I2.env0 hL r2 q2) fun r s' hq=>?_)
   cases r with
   | error e=>exact hq.elim
   | ok fl =>
    cases fl with
    | ret u=>exact I2.after hq
    | next=>exact False.elim hq
    | brk=>exact False.elim hq
    | cont=>exact False.elim hq
 rw [he] at hw ⊢
 exact PySem.W.callWith_of (P:=fun h=>∃ fd,h.get? f=some { cls:=.type "function", data:=.func fd }) (by show ((false || (backTo pos (starEach as X.env)).any (·.1)) || false)=false;rw [hpl];rfl)
  (fun h ⟨fd,hf⟩=>⟨.frame,.inl rfl,(PySem.W.Looks.ld (part:=none) hf).andThen .now⟩) (PySem.Calls.evalArgs_plain hw)
end
section
variable {P:Program} {w:World} {K:PySem.W.Frag} {mg:Str→Option Value} {base:Heap}
theorem Vz {x:Str} {f c T:Addr} {oc:Value} {od:Option Addr} {fd:FuncData} {sl:Array (Option Value)} (hn:PySem.W.nsIn K mainGlobals x=some (some (.ref f))) (lk:K.lookup f=some ⟨oc,od,.func fd,sl⟩) (h:PySem.W.tabIn K x=some (c,T)):fd.code=.ref c:=by
 unfold PySem.W.tabIn at h
 rw [hn] at h
 simp only [lk] at h
 split at h
 ·rename_i c2 hc
  split at h
  ·split at h
   ·cases h;exact hc
   ·cases h
  ·cases h
 ·cases h
theorem Fun.okC {x qual:Str} {st:Stmt} {f c T:Addr} {fd:FuncData} {N ps:List Str} {k:Nat} {sp:Sp} (F:Fun K x qual st f fd) (hn:PySem.W.nsIn K mainGlobals x=some (some (.ref f))) (hT:PySem.W.tabIn K x=some (c,T)) (S:FnScope N ps (defScope st)) (len:∀ vs H Q E,sp vs H Q E→vs.length=ps.length)
 (hbody:∀ (A:Around) (outer:List Env) (s:Shared) (H:Hp) (vs:List V) (Q:VK) (E:XK),Room k (A.deeper (envOfC qual (defScope st) s.heap.objs.size f (.ref c)))→sp vs H Q E →
  ∃ t,PSs (Z4 CX0 P w K mg base N qual (defScope st) f (.ref c) A outer s H E).nox (defBody st) t∧t { nx:=fun _ H'=>Q .non H',rt:=Q } (start N vs) H):FnOk P w K mg base CX0 (k + 1) f fd ps sp:=by
 obtain ⟨oc,od,kV,doc,pm,an,cdv,ct,osl,rfl,lk,hcd⟩:=F.ex
 have e:cdv=.ref c:=Vz hn lk hT
 subst e
 refine VL lk hcd S len fun A outer s H vs Q E hr hsp=>?_
 obtain ⟨t,h,q⟩:=hbody A outer s H vs Q E hr hsp
 exact ⟨t,h.nox,q⟩
end
end L2
namespace L2
open PySem PySem.Spec PyProof.Rows
def ValO (p d:Addr):HO:=.ext fun h=>h.IsValuesView p d
def ItmO (p d:Addr):HO:=.ext fun h=>h.IsItemsView p d
section
variable {X:Cx}
theorem V8:MtR X "dict.values" (fun x vs H Q=>∃ (d:Addr) (kvs:List (Key × V)),x=.ref d∧vs=[]∧H d=some (.dK kvs)∧∀ p,H p=none→Q (.ref p) (upd H p (ValO p d))):=by
 intro pins s σ H x xs v us Q I rx rv h
 obtain ⟨d,kvs,rfl,rfl,hd,q⟩:=h
 cases rx
 cases rv
 obtain ⟨z,ne,vs,rel,dd⟩:=JL I.hok hd
 refine call_meetsIn PySem.F.slot_dict_values dd.typeIs PySem.F.entry_dict_values (PySem.F.args_dict_values_1 _) (meets_dict_values (Qt X.prog X.w) d ne) ⟨⟨vs,dd⟩,?_⟩
 refine ⟨.ref s.heap.objs.size,_,I.laid (a:=s.heap.objs.size) (o:=ValO s.heap.objs.size d) (t':=s.toks) (fun b o e=>Heap.get?_push_of_some _ e) (7:) ?_,rfl,q _ (I.hok.fresh (7:))⟩
 refine ⟨(55:),⟨_,Heap.get?_push_size _ rfl⟩,fun h1 h2 ⟨o,e,c,dt⟩ k=>⟨o,k _ e,c,dt⟩⟩
theorem M4:MtR X "dict.items" (fun x vs H Q=>∃ (d:Addr) (kvs:List (Key × V)),x=.ref d∧vs=[]∧H d=some (.dK kvs)∧∀ p,H p=none→Q (.ref p) (upd H p (ItmO p d))):=by
 intro pins s σ H x xs v us Q I rx rv h
 obtain ⟨d,kvs,rfl,rfl,hd,q⟩:=h
 cases rx
 cases rv
 obtain ⟨z,ne,vs,rel,dd⟩:=JL I.hok hd
 refine call_meetsIn PySem.F.slot_dict_items dd.typeIs PySem.F.entry_dict_items (PySem.F.args_dict_items_1 _) (meets_dict_items (Qt X.prog X.w) d ne) ⟨⟨vs,dd⟩,?_⟩
 refine ⟨.ref s.heap.objs.size,_,I.laid (a:=s.heap.objs.size) (o:=ItmO s.heap.objs.size d) (t':=s.toks) (fun b o e=>Heap.get?_push_of_some _ e) (7:) ?_,rfl,q _ (I.hok.fresh (7:))⟩
 refine ⟨(55:),⟨_,Heap.get?_push_size _ rfl⟩,fun h1 h2 ⟨o,e,c,dt⟩ k=>⟨o,k _ e,c,dt⟩⟩
end
section
variable {X:Cx} {pins:List (9:)} {σ:St} {H:Hp} {s:Shared}
theorem Inv.freeze {d:Addr} {kvs:List (Key × V)} {ob:Obj} (I:Inv X pins σ H s) (hd:H d=some (.dK kvs)) (e:s.heap.get? d=some ob):Inv X pins σ (upd H d (.frz ob (.dK kvs))) s:=by
 have e1:∀ b u,H b=some u→u≠.dK kvs→upd H d (.frz ob (.dK kvs)) b=some u:=fun b u q n=>by rw [Qg (QS q hd n)];exact q
 have J:=I.step (h':=s.heap) (H':=upd H d (.frz ob (.dK kvs))) (g':=s.gens) (d':=s.drawn) (t':=s.toks) (ch:=[]) (fun _ z=>nomatch z) (fun b o _ _ _ q _=>q) (fun b o _ _ _ q _=>⟨o.slots,q⟩)
  (fun b o _ q n=>by rw [Qg (fun z=>by rw [z,hd] at n;cases n)];exact n) (fun b o _ q=>⟨o,q⟩) (fun b xs q=>e1 b _ q (32:)) (fun b o u q=>e1 b _ q (32:)) (fun b ps q=>⟨#[],by rw [e1 b _ q (32:)];simp⟩) (fun m hn=>hn)
  (fun b u q=>by
   by_cases hb:b=d
   ·subst hb
    rw [Qb] at q
    cases q
    exact ⟨e,(I.hok b _ hd).stay (fun c v _ r=>r) (fun c r=>e1 c _ r (32:)) fun c xs r=>e1 c _ r (32:)⟩
   ·rw [Qg hb] at q
    exact (I.hok b u q).stay (fun c v _ r=>r) (fun c r=>e1 c _ r (32:)) fun c xs r=>e1 c _ r (32:)) I.bare
 exact J
theorem Inv.thaw {d:Addr} {kvs:List (Key × V)} {ob:Obj} (I:Inv X pins σ H s) (h0:∀ o u,X.H₀ d≠some (.frz o u)) (hd:H d=some (.frz ob (.dK kvs))):Inv X pins σ (upd H d (.dK kvs)) s:=by
 have e1:∀ b u,H b=some u→u≠.frz ob (.dK kvs)→upd H d (.dK kvs) b=some u:=fun b u q n=>by rw [Qg (QS q hd n)];exact q
 have nn:∀ b,H b=none→upd H d (.dK kvs) b=none:=fun b n=>by rw [Qg (fun z=>by rw [z,hd] at n;cases n)];exact n
 refine ⟨I.ok,I.os,I.bare,⟨I.base.keep,I.base.slot,fun b o q n hx=>nn b (I.base.free b o q n hx),I.base.there,fun b xs q=>e1 b _ (I.base.tups b xs q) (32:),fun b o u q=>?_,fun b ps q=>?_⟩,I.loc,I.cell,nn _ I.free,fun x c q=>nn _ (I.freeC x c q),fun p hp=>?_,fun b u q=>?_,I.len⟩
 ·have:=I.base.frzs b o u q
  by_cases hb:b=d
  ·subst hb
   exact absurd q (h0 o u)
  ·rw [Qg hb];exact this
 ·obtain ⟨more,e⟩:=I.base.tbls b ps q
  exact ⟨more,e1 b _ e (32:)⟩
 ·obtain ⟨a1,a2,a3⟩:=I.pin p hp
  exact ⟨a1,nn _ a2,a3⟩
 ·by_cases hb:b=d
  ·subst hb
   rw [Qb] at q
   cases q
   exact (I.hok b _ hd).2.stay (fun c v _ r=>r) (fun c r=>e1 c _ r (32:)) fun c xs r=>e1 c _ r (32:)
  ·rw [Qg hb] at q
   exact (I.hok b u q).stay (fun c v _ r=>r) (fun c r=>e1 c _ r (32:)) fun c xs r=>e1 c _ r (32:)
end
def NF (d:Addr) (kvs:List (Key × V)) (Q:Hp→Prop):Hp→Prop:=fun H=>(∃ o,H d=some (.frz o (.dK kvs)))∧Q (upd H d (.dK kvs))
def Rj (t:TS):TS:=fun D σ H=>∃ d kvs,H d=some (.dK kvs)∧t { nx:=fun σ'=>NF d kvs (D.nx σ'),ct:=fun σ'=>NF d kvs (D.ct σ'),bk:=fun σ'=>NF d kvs (D.bk σ'),rt:=fun v=>NF d kvs (D.rt v) } σ H
section
variable {X:Cx}
theorem VB {st:Stmt} {t:TS} (h:PS X st t):PS X st (Rj t):=by
 intro pins s σ H D I hw
 obtain ⟨d,kvs,hd,hw⟩:=hw
 have h0:∀ o u,X.H₀ d≠some (.frz o u):=fun o u q=>by
  have:=I.base.frzs d o u q
  rw [hd] at this;cases this
 refine wpAny_mono (h pins s σ H _ I hw) (fun f s' hs=>?_) fun _ _ z=>z
 cases f with
 | next=>obtain ⟨σ',H',J,⟨o,ho⟩,q⟩:=hs;exact ⟨σ',_,J.thaw h0 ho,q⟩
 | cont=>obtain ⟨σ',H',J,⟨o,ho⟩,q⟩:=hs;exact ⟨σ',_,J.thaw h0 ho,q⟩
 | brk=>obtain ⟨σ',H',J,⟨o,ho⟩,q⟩:=hs;exact ⟨σ',_,J.thaw h0 ho,q⟩
 | ret u=>obtain ⟨v,σ',H',J,rv,⟨o,ho⟩,q⟩:=hs;exact ⟨v,σ',_,J.thaw h0 ho,rv,q⟩
end
def MI (d:Addr) (o:Obj) (kvs:List (Key × V)):It :=
 ⟨fun i H=>H d=some (.frz o (.dK kvs))∧i < kvs.length,fun i H x H'=>H'=H∧∃ k,kvs[i]?=some (k,x),fun i H=>H d=some (.frz o (.dK kvs))∧kvs.length≤i⟩
def Pa (d:Addr) (o:Obj) (kvs:List (Key × V)):It :=
 ⟨fun i H=>H d=some (.frz o (.dK kvs))∧i < kvs.length,fun i H x H'=>∃ p k v,H p=none∧x=.ref p∧H'=upd H p (.tup [kV k,v])∧kvs[i]?=some (k,v),fun i H=>H d=some (.frz o (.dK kvs))∧kvs.length≤i⟩
theorem YT {P:Program} {w:World} {H:Hp} {h:Heap} {d:Addr} {o:Obj} {kvs:List (Key × V)} {es:Array DictEntry} {ep:Nat} (x:HOk P w H h) (hd:H d=some (.frz o (.dK kvs))) (he:o.data=.dict es ep):h.get? d=some o∧∃ vs,KV kvs vs∧h.DictAt (Qt P w) d vs ep:=by
 obtain ⟨e,z,ne,vs,rel,o2,es2,ep2,e2,ex,dt,r⟩:=x d _ hd
 refine ⟨e,vs,rel,?_⟩
 rw [e] at e2
 cases e2
 rw [he] at dt
 cases dt
 exact ⟨o,es,e,ex,he,r⟩
theorem KV.at {kvs:List (Key × V)} {vs:List (Key × Value)} (r:KV kvs vs) {i:Nat} {k:Key} {v:V} (e:kvs[i]?=some (k,v)):∃ u,vs[i]?=some (k,u)∧RelV v u:=by
 induction r generalizing i with
 | nil=>simp at e
 | @cons p q _ _ h _ ih =>
  cases i with
  | zero =>
   simp at e
   subst e
   obtain ⟨k2,u⟩:=q
   obtain ⟨h1,h2⟩:=h
   simp only at h1 h2
   subst h1
   exact ⟨u,rfl,h2⟩
  | succ i=>exact ih (by simpa using e)
theorem WX {P:Program} {w:World} {K:PySem.W.Frag} {tg:Expr} {d:Addr} {o:Obj} {es:Array DictEntry} {ep:Nat} (he:o.data=.dict es ep) (kvs:List (Key × V)) (it:Addr):Turn P w K tg (MI d o kvs) [it] it (fun i h=>h.IsValIter it d i kvs.length ep) where
 mem:=by simp
 obj:=fun i h st b hb=>by
  have e:b=it:=by simpa using hb
  subst e
  obtain ⟨ob,e,c,dt⟩:=st
  exact ⟨ob,e,fun v z=>by rw [dt] at z;cases z⟩
 keep:=fun i h h' st k=>by
  obtain ⟨ob,e,r⟩:=st
  exact ⟨ob,k it (24:) ob e,r⟩
 item:=by
  intro X hP hw hK hc i pins s σ H E I hf st hg
  subst hP hw hK
  obtain ⟨hd,hi⟩:=hg
  obtain ⟨_,vs,rel,D⟩:=YT I.hok hd he
  have ek:kvs[i]?=some (kvs[i].1,kvs[i].2):=List.getElem?_eq_getElem hi
  obtain ⟨u,hu,ru⟩:=KV.at rel ek
  obtain ⟨f0,f1,f2,f3,f4,f5⟩:=hf it (24:)
  rw [rel.length] at st
  refine wpAny_pyNext_values_item st D hu fun h' st' sb=>?_
  have I1:Inv X pins σ H { s with heap:=h' }:=I.turned (t':=s.toks) (fun b o hb e=>(sb.2 b hb).trans e) f0 f1 f3 f4 f5
  obtain ⟨ob,e,c,dt⟩:=id st'
  rw [← rel.length] at st'
  exact ⟨u,rfl,XX (s:={ s with heap:=h' }) e c dt (27:) ⟨kvs[i].2,H,I1,ru,⟨rfl,_,ek⟩,st',fun b hb=>(hf b hb).1⟩⟩
 done:=by
  intro X hP hw hK hc i pins s σ H E I hf st hg
  subst hP hw hK
  obtain ⟨hd,hi⟩:=hg
  obtain ⟨_,vs,rel,D⟩:=YT I.hok hd he
  obtain ⟨f0,f1,f2,f3,f4,f5⟩:=hf it (24:)
  rw [rel.length] at st
  exact wpAny_pyNext_values_end (I.ok.hd hc) st D (List.getElem?_eq_none (by rw [← rel.length];exact hi)) fun h' eb=>(36:)
 self:=fun A i s Q E st h=>wpAny_pyIter_valiter st h
theorem V0:entryFor table "dict_itemiterator.__iter__" = some Builtin.«dict_keyiterator.__iter__» :=
 entryFor_alias (id':="dict_keyiterator.__iter__") (by kernel_rfl) (by first | rfl | decide +kernel | (unfold String.splitOn;simp +decide [String.splitOnAux])) (0:) (by kernel_rfl)
theorem X3 {P:Program} {w:World} {K:PySem.W.Frag} {elts:List Expr} {k1:Nat} {pos:Pos} {d:Addr} {o:Obj} {es:Array DictEntry} {ep:Nat} (he:o.data=.dict es ep) (kvs:List (Key × V)) (it:Addr):Turn P w K (.Tuple elts k1 pos) (Pa d o kvs) [it] it (fun i h=>∃ ok ov,IsItemIter h it d i kvs.length ep ok ov) where
 mem:=by simp
 obj:=fun i h st b hb=>by
  have e:b=it:=by simpa using hb
  subst e
  obtain ⟨ok,ov,e⟩:=st
  exact ⟨_,e,fun v z=>by cases z⟩
 keep:=fun i h h' st k=>by
  obtain ⟨ok,ov,e⟩:=st
  exact ⟨ok,ov,k it (24:) _ e⟩
 item:=by
  intro X hP hw hK hc i pins s σ H E I hf st hg
  subst hP hw hK
  obtain ⟨hd,hi⟩:=hg
  obtain ⟨ok,ov,st⟩:=st
  obtain ⟨_,vs,rel,D⟩:=YT I.hok hd he
  have ek:kvs[i]?=some (kvs[i].1,kvs[i].2):=List.getElem?_eq_getElem hi
  obtain ⟨u,hu,ru⟩:=KV.at rel ek
  rw [rel.length] at st
  refine wpAny_pyNext_items_item st D hu fun key h' hkey ho ht hsz hk=>?_
  refine ⟨.ref s.heap.objs.size,rfl,wpAny_letOwnedTupleGo_items (s:={ s with heap:=h' }) ho fun h'' he'' hs'=>?_⟩
  have hse:s.heap.objs.size≠it:=Nat.ne_of_gt (Heap.lt_size st)
  have rk:RelV (kV kvs[i].1) key:=by
   rcases QM hkey with ⟨j,t,e1,e2⟩ | ⟨x,t,e1,e2⟩
   ·rw [e1];exact ⟨t,e2⟩
   ·rw [e1];exact ⟨t,e2⟩
  have I2:Inv X pins σ (upd H s.heap.objs.size (.tup [kV kvs[i].1,kvs[i].2])) { s with heap:=h'' }:=by
   refine I.turnedNew (t':=s.toks) (ch:=[it]) (fun c o hc g=>?_) hf (7:) ⟨by show 2≤sizeLine;decide,[key,u],.cons rk (.cons ru .nil),⟨_,(hs'.2 _ hse).trans ht,rfl,_,rfl⟩⟩
   have hc':c≠it:=fun z=>hc (by simp [z])
   exact (hs'.2 c hc').trans (hk c o hc' g)
  have hfr:∀ c ∈ [it],upd H s.heap.objs.size (.tup [kV kvs[i].1,kvs[i].2]) c=none:=fun c hc=>by
   have e:c=it:=by simpa using hc
   subst e
   rw [Qg (Ne.symm hse)];exact (hf c hc).1
  rw [← rel.length] at he''
  exact ⟨.ref s.heap.objs.size,_,I2,rfl,⟨s.heap.objs.size,_,_,I.fresh,rfl,rfl,ek⟩,⟨_,_,he''⟩,hfr⟩
 done:=by
  intro X hP hw hK hc i pins s σ H E I hf st hg
  subst hP hw hK
  obtain ⟨hd,hi⟩:=hg
  obtain ⟨ok,ov,st⟩:=st
  obtain ⟨_,vs,rel,D⟩:=YT I.hok hd he
  obtain ⟨f0,f1,f2,f3,f4,f5⟩:=hf it (24:)
  rw [rel.length] at st
  exact wpAny_pyNext_items_end (I.ok.hd hc) st D (List.getElem?_eq_none (by rw [← rel.length];exact hi)) fun h' eb=>(36:)
 self:=fun A i s Q E st h=>by
  obtain ⟨ok,ov,st⟩:=st
  have hT:s.TypeIs (.ref it) "dict_itemiterator" := ⟨_,st,rfl⟩
  refine wpAny_pyIter_slot hT PySem.F.slot_dict_itemiterator_iter (wpAny_call_entry PySem.F.slot_dict_itemiterator_iter hT V0 ?_ (PySem.F.args_dict_itemiterator_iter_1 _))
  exact wpAny_pure ⟨_,rfl, "dict_itemiterator", _,hT,PySem.F.slot_dict_itemiterator_next.lookup,h⟩
section
variable {X:Cx} {tg e:Expr} {te:TE}
def iDV (te:TE):TI:=fun σ H R=>te σ H fun x H1=>∃ p d kvs,x=.ref p∧H1 p=some (ValO p d)∧H1 d=some (.dK kvs)∧∀ o,R (MI d o kvs) (upd H1 d (.frz o (.dK kvs)))
def iDI (te:TE):TI:=fun σ H R=>te σ H fun x H1=>∃ p d kvs,x=.ref p∧H1 p=some (ItmO p d)∧H1 d=some (.dK kvs)∧∀ o,R (Pa d o kvs) (upd H1 d (.frz o (.dK kvs)))
theorem LM (he:PE X e te):PI X tg e (iDV te):=by
 intro pins s σ H R I h
 refine thn (he pins s σ H _ I h) fun v s1 ⟨x,H1,I1,r1,p,d,kvs,ex,hp,hd,q⟩=>?_
 subst ex
 obtain rfl:v=Value.ref p:=r1
 obtain ⟨z,ne,vs,rel,o,es,ep,ho,ext,dt,rest⟩:=JL I1.hok hd
 have hv:s1.heap.IsValuesView p d:=(I1.hok p _ hp).1
 refine wpAny_pyIter_values (knd:=Qt X.prog X.w) hv ⟨o,es,ho,ext,dt,rest⟩ ?_
 have I2:=I1.freeze hd ho
 refine ⟨s1.heap.objs.size,[s1.heap.objs.size],_,_,_,rfl,I2.kept (t':=s1.toks) fun b o e=>Heap.get?_push_of_some _ e,WX dt kvs _,?_,fun b hb=>?_,q o⟩
 ·rw [rel.length];exact (55:)
 ·have e:b=s1.heap.objs.size:=by simpa using hb
  subst e
  exact I2.fpOk (7:) (I2.hok.fresh (7:))
theorem GQ {elts:List Expr} {k1:Nat} {tpos:Pos} (he:PE X e te):PI X (.Tuple elts k1 tpos) e (iDI te):=by
 intro pins s σ H R I h
 refine thn (he pins s σ H _ I h) fun v s1 ⟨x,H1,I1,r1,p,d,kvs,ex,hp,hd,q⟩=>?_
 subst ex
 obtain rfl:v=Value.ref p:=r1
 obtain ⟨z,ne,vs,rel,o,es,ep,ho,ext,dt,rest⟩:=JL I1.hok hd
 have hv:s1.heap.IsItemsView p d:=(I1.hok p _ hp).1
 refine wpAny_pyIter_items (knd:=Qt X.prog X.w) hv ⟨o,es,ho,ext,dt,rest⟩ ?_
 have I2:=I1.freeze hd ho
 refine ⟨s1.heap.objs.size,[s1.heap.objs.size],_,_,_,rfl,I2.kept (t':=s1.toks) fun b o e=>Heap.get?_push_of_some _ e,X3 dt kvs _,?_,fun b hb=>?_,q o⟩
 ·rw [rel.length];exact ⟨_,_,Heap.get?_push_size _ rfl⟩
 ·have e:b=s1.heap.objs.size:=by simpa using hb
  subst e
  exact I2.fpOk (7:) (I2.hok.fresh (7:))
end
theorem V1 {d:Addr} {o:Obj} {kvs:List (Key × V)} {g:TG} {tb:TS} {D:Ends} {σ:St} {H:Hp} (Pv:Nat→St→Hp→Prop) (h0:Pv 0 σ H) (hl:∀ i σ H,i≤kvs.length→Pv i σ H→H d=some (.frz o (.dK kvs)))
 (hs:∀ i k x σ H,kvs[i]?=some (k,x)→Pv i σ H→g x σ H fun σ2 H2=>tb { D with nx:=Pv (i + 1),ct:=Pv (i + 1),bk:=D.nx } σ2 H2) (hd:∀ σ H,Pv kvs.length σ H→D.nx σ H) :
 ∃ W:Nat→Nat→St→Hp→Prop,(∃ m,W 0 m σ H)∧∀ i m σ H,W i m σ H →
  ((MI d o kvs).stop i H∧D.nx σ H)∨((MI d o kvs).go i H∧∃ N:St→Hp→Prop,(23:)∧∀ x H',(MI d o kvs).yld i H x H'→g x σ H' fun σ2 H2=>tb { D with nx:=N,ct:=N,bk:=D.nx } σ2 H2):=by
 refine ⟨fun i m σ H=>m=kvs.length - i∧i≤kvs.length∧Pv i σ H,⟨kvs.length,by simp,Nat.zero_le _,h0⟩,?_⟩
 rintro i m σ H ⟨rfl,hi,p⟩
 have q:=hl i σ H hi p
 by_cases hlt:i < kvs.length
 ·refine .inr ⟨⟨q,hlt⟩,Pv (i + 1),fun σ' H' p'=>⟨kvs.length - (i + 1),by lia,rfl,hlt,p'⟩,fun x H' y=>?_⟩
  obtain ⟨e,k,y⟩:=y
  subst e
  exact hs i k x σ _ y p
 ·have e:i=kvs.length:=by lia
  subst e
  exact .inl ⟨⟨q,Nat.le_refl _⟩,hd σ H p⟩
end L2
namespace L2
open PySem PySem.Spec PyProof.Rows
theorem JO {X:Cx} {pins:List (9:)} {σ:St} {H:Hp} {s:Shared} (I:Inv X pins σ H s):∀ ts:List (Addr × Key × V),(∀ t ∈ ts,SqT X.K H t.1 [kV t.2.1,t.2.2]) →
 ∃ ps:List (Key × Value),KV (ts.map fun t=>(t.2.1,t.2.2)) ps∧∀ (j:Nat) (q:Key × Value),ps[j]?=some q→∃ p u,(ts.map fun t=>Value.ref t.1)[j]?=some (.ref p)∧(Qt X.prog X.w).is q.1 u=true∧s.heap.IsTuple p #[u,q.2]
 | [],_=>⟨[],.nil,fun j q h=>by simp at h⟩
 | t :: r,h=>by
  obtain ⟨ps,h1,h2⟩:=JO I r fun u hu=>h u (38:)
  obtain ⟨its,rv,p,_⟩:=I.tuple (h t List.mem_cons_self)
  obtain ⟨u,v,rfl,ru,rv'⟩:=rv.two
  refine ⟨(t.2.1,v) :: ps,.cons ⟨rfl,rv'⟩ h1,fun j q hj=>?_⟩
  cases j with
  | zero =>
   have:q=(t.2.1,v):=by simpa using hj.symm
   subst this
   exact ⟨t.1,u,rfl,YQ (k:=t.2.1) ru,p⟩
  | succ j =>
   obtain ⟨p',u',e1,e2,e3⟩:=h2 j q (by simpa using hj)
   exact ⟨p',u',by simpa using e1,e2,e3⟩
section
variable {X:Cx}
theorem WV (hc:X.calm=true):Zs X (.type "dict") (fun xs H Q=>∃ (l:Addr) (ts:List (Addr × Key × V)),xs=[.ref l]∧SqL X.K H l (ts.map fun t=>V.ref t.1)∧(∀ t ∈ ts,SqT X.K H t.1 [kV t.2.1,t.2.2])∧(ts.map fun t=>t.2.1).Nodup∧ts.length≤1000 ∧
 ∀ d,H d=none→Q (.ref d) (upd H d (.dK (ts.map fun t=>(t.2.1,t.2.2))))):=by
 intro pins s σ H xs us Q I r h
 obtain ⟨l,ts,rfl,hl,ht,hnd,hz,q⟩:=h
 cases r with
 | cons r rr =>
  cases rr
  obtain rfl:_=Value.ref l:=r
  obtain ⟨its,rv,⟨o,n,e,c,dn,dt⟩,_⟩:=I.list hl
  obtain rfl:=Yp rv
  obtain ⟨ps,hkv,hps⟩:=JO I ts ht
  have hlen:ps.length=ts.length:=by have:=hkv.length;rw [List.length_map] at this;exact this.symm
  have hz1:ps.length≤sizeLine:=by rw [hlen,sizeLine_eq];lia
  refine Jn (I.ok.hd hc) I.big e c dn dt hz1 (by rw [List.size_toArray,List.length_map];exact hlen) (fun j q hq=>by simpa using hps j q hq) fun h' tk hD hk=>?_
  have hk1:((([]:List (Key × Value)) ++ ps).map (·.1)).Nodup:=by
   rw [List.nil_append,KV.keys' hkv,List.map_map]
   exact hnd
  rw [Z1 ps [] hk1,List.nil_append] at hD
  have hfr:=I.hok.fresh (Nat.le_refl s.heap.objs.size)
  refine ⟨.ref s.heap.objs.size,_,I.laid (a:=s.heap.objs.size) (o:=.dK (ts.map fun t=>(t.2.1,t.2.2))) (t':=tk) hk (7:) (XG (by rw [List.length_map,sizeLine_eq];lia) (beq_eq_false_iff_ne.mpr (Ne.symm (Nat.ne_of_lt I.big))) hkv hD),rfl,q _ hfr⟩
end
theorem GK {d acc:Addr} {K:PySem.W.Frag} {o:Obj} {kvs:List (Key × V)} {tt:TT} {te:TE} {cs:St} {H1:Hp} {Q:Hp→Prop} (Pv:Nat→List V→Hp→Prop) (h0:Pv 0 [] (upd H1 acc (.lst []))) (hl:∀ i ys H,i≤kvs.length→Pv i ys H→H d=some (.frz o (.dK kvs)))
 (hs:∀ i k v p ys H,i < kvs.length→kvs[i]?=some (k,v)→H p=none→Pv i ys H→tt (some (kV k) :: some v :: cs) (upd H p (.tup [kV k,v])) (Gc kvs.length Pv acc i te (some (kV k) :: some v :: cs))) (hd:∀ ys H,Pv kvs.length ys H→Q H):Ja (Pa d o kvs) 2 cs (Ls K 2 (YW (Zd 0) (YW (Zd 1) MX))) tt te H1 acc Q:=by
 refine Q6 Pv h0 (fun ys H p=>⟨⟨hl _ _ _ (7:) p,Nat.le_refl _⟩,hd ys H p⟩) fun i ys H hi p=>⟨⟨hl _ _ _ (Nat.le_of_lt hi) p,hi⟩,?_⟩
 rintro x H3 ⟨p',k,v,hp,rfl,rfl,e⟩ as has
 obtain ⟨a0,a1,rfl⟩:=J2 has
 exact ⟨p',[kV k,v],rfl,SqT.of Qb,rfl,kV k,[v],rfl,v,[],rfl,rfl,⟨[some (kV k),some v],rfl,rfl⟩,hs i k v p' ys H hi e hp p⟩
end L2
namespace L2
open PySem PySem.Spec PyProof.Rows
section
variable {prog:Program} {w:World} {A:Around} {E:Value→Shared→Prop} {s:Shared}
end
section
variable {X:Cx} {e:Expr} {te:TE} {p pos p2 pos2:Pos}
theorem Gs (hc:X.calm=true):Zs X (.builtin "sum") (fun xs H Q=>∃ (l:Addr) (ns:List Int),xs=[.ref l]∧SqL X.K H l (ns.map V.int)∧Q (.int ns.sum) H):=by
 intro pins s σ H xs us Q I r h
 obtain ⟨l,ns,rfl,hl,q⟩:=h
 cases r with
 | cons r rr =>
  cases rr
  obtain rfl:_=Value.ref l:=r
  obtain ⟨its,rv,p,_⟩:=I.list hl
  obtain ⟨ys,rfl,e2⟩:=YA rv
  have hL:s.heap.IsList l (intItems ys.toArray):=by rw [JP];exact p.isList
  refine sum_intListG (I.ok.hd hc) hL fun h' tk t' hk=>⟨.int ns.sum,H,I.kept (t':=tk) hk,⟨t',?_⟩,q⟩
  rw [Nh,e2,List.take_of_length_le]
  rw [← e2];simp
end
end L2
namespace K25
open PySem L2 TM TT K9 K11
section
variable {α:Type}
mutual
def Uf (op:Lab→List α→α) (cv:Int→Int→α):Tm→α
 | .node (.call m b) _ _=>cv m b
 | .node (.put n k a) _ bs=>op (.put n k a) (UP op cv bs)
def UP (op:Lab→List α→α) (cv:Int→Int→α):List Tm→List α
 | []=>[]
 | t :: r=>Uf op cv t :: UP op cv r
end
theorem U3 (op:Lab→List α→α) (cv:Int→Int→α):∀ ts:List Tm,UP op cv ts=ts.map (Uf op cv)
 | []=>by simp [UP]
 | t :: r=>by simp only [UP,List.map_cons,U3 op cv r]
mutual
def Xy (op:Lab→Int→List α→α) (d:α) (ks:List KdT) (ms:List Md):Tree Str→Int→α
 | .node n mk bs=>fun m=>match ms[m.toNat]? with
  | none=>d
  | some md=>match Zv ks md n with
   | none=>d
   | some u=>Uf (fun l xs=>op l mk xs) (fun m' b=>((XU op d ks ms bs)[b.toNat]?).elim d fun g=>g m') u
def XU (op:Lab→Int→List α→α) (d:α) (ks:List KdT) (ms:List Md):List (Tree Str)→List (Int→α)
 | []=>[]
 | t :: r=>Xy op d ks ms t :: XU op d ks ms r
end
theorem Jw (op:Lab→Int→List α→α) (d:α) (ks:List KdT) (ms:List Md):∀ ts:List (Tree Str),XU op d ks ms ts=ts.map (Xy op d ks ms)
 | []=>by simp [XU]
 | t :: r=>by simp only [XU,List.map_cons,Jw op d ks ms r]
def Zu (op:Lab→Int→List α→α) (d:α) (T:Tu) (u:Tm) (r:Tree Str):α:=Uf (fun l xs=>op l (mkT r) xs) (fun m b=>(r.bs[b.toNat]?).elim d fun c=>Xy op d T.ks T.ms c m) u
theorem Gh {op:Lab→Int→List α→α} {d:α} {T:Tu} {t:Tree Str} {m:Int} {md:Md} {u:Tm} (h1:T.ms[m.toNat]?=some md) (h2:Zv T.ks md (nmT t)=some u):Xy op d T.ks T.ms t m=Zu op d T u t:=by
 cases t with
 | node n mk bs =>
  have h2':Zv T.ks md n=some u:=h2
  simp only [Xy,h1,h2',Jw]
  unfold Zu
  congr 1
  funext m' b
  rw [List.getElem?_map]
  show (Option.map (Xy op d T.ks T.ms) bs[b.toNat]?).elim d (fun g=>g m')=(bs[b.toNat]?).elim d fun c=>Xy op d T.ks T.ms c m'
  cases bs[b.toNat]? <;> rfl
end
theorem St.call {T:Tu} (ok:TuOk T) {u:Tm} {r:Tree Str} (h:St T (u,r)) {m b:Int} (hc:(m,b) ∈ cls u) :
 ∃ c md v,0≤b∧0≤m∧r.bs[b.toNat]?=some c∧T.ms[m.toNat]?=some md∧Zv T.ks md (nmT c)=some v∧v ∈ md.2∧St T (v,c):=by
 obtain ⟨kinds,hf,hl,hT⟩:=h
 have h1:St T (ZB m b,r):=by
  refine ⟨kinds,?_,hl,hT⟩
  unfold YI at hf ⊢
  simp only [ZB,cls,lcl,Zh,List.append_nil,List.all_cons,List.all_nil,Bool.and_true]
  exact List.all_eq_true.mp hf _ hc
 obtain ⟨c,md,v,b0,m0,e1,e2,e3,e4,_,e5⟩:=h1.next ok (m:=m) (b:=b) rfl
 exact ⟨c,md,v,b0,m0,e1,e2,e3,e4,e5⟩
def Rep {α:Type} (K:PySem.W.Frag) (R:Hp→V→α→Prop):Prop:=∀ (H H':Hp) (v:V) (a:α),(∀ x xs,SqT K H x xs→SqT K H' x xs)→R H v a→R H' v a
inductive RAll {α:Type} (R:Hp→V→α→Prop) (H:Hp):List V→List α→Prop where
 | nil:RAll R H [] []
 | cons {v:V} {a:α} {vs:List V} {as:List α}:R H v a→RAll R H vs as→RAll R H (v :: vs) (a :: as)
theorem RAll.append {α:Type} {R:Hp→V→α→Prop} {H:Hp}:∀ {vs ws:List V} {as bs:List α},RAll R H vs as→RAll R H ws bs→RAll R H (vs ++ ws) (as ++ bs)
 | _,_,_,_,.nil,h=>h
 | _,_,_,_,.cons a t,h=>.cons a (RAll.append t h)
theorem RAll.imp {α:Type} {R:Hp→V→α→Prop} {H H':Hp} (k:∀ {v a},R H v a→R H' v a):∀ {vs:List V} {as:List α},RAll R H vs as→RAll R H' vs as
 | _,_,.nil=>.nil
 | _,_,.cons a t=>.cons (k a) (RAll.imp k t)
theorem Rd.mk {H H':Hp} {d:Addr} {u:HO} (g:Same H H') (h:Rd H d u):Rd H' d u:=by
 rcases h with h | ⟨o,h⟩
 ·exact .inl (g _ _ h)
 ·exact .inr ⟨o,g _ _ h⟩
def BelAt {α:Type} (R:Hp→V→α→Prop) (H:Hp) (ds:List Addr) (cv:Int→Int→α) (cs:List (Int × Int)):Prop:=∀ c ∈ cs,0≤c.2∧∃ d kvs v,ds[c.2.toNat]?=some d∧Rd H d (.dK kvs)∧Zp kvs (Sum.inl c.1:Key)=some v∧R H v (cv c.1 c.2)
theorem BelAt.same {α:Type} {K:PySem.W.Frag} {R:Hp→V→α→Prop} (hR:Rep K R) {H H':Hp} {ds:List Addr} {cv:Int→Int→α} {cs:List (Int × Int)} (g:Same H H') (h:BelAt R H ds cv cs):BelAt R H' ds cv cs:=fun c hc=>by
 obtain ⟨h0,d,kvs,v,h1,h2,h3,h4⟩:=h c hc
 exact ⟨h0,d,kvs,v,h1,Rd.mk g h2,h3,hR _ _ _ _ (fun _ _=>g.seqT) h4⟩
theorem BelAt.sub {α:Type} {R:Hp→V→α→Prop} {H:Hp} {ds:List Addr} {cv:Int→Int→α} {cs cs':List (Int × Int)} (h:BelAt R H ds cv cs) (k:∀ c ∈ cs',c ∈ cs):BelAt R H ds cv cs':=fun c hc=>h c (k c hc)
theorem JD {c:Int × Int} {t:Tm}:∀ {ts:List Tm},t ∈ ts→c ∈ cls t→c ∈ Zh ts
 | _ :: _,h,hc=>by
  simp only [Zh]
  rcases List.mem_cons.mp h with rfl | h
  ·exact List.mem_append_left _ hc
  ·exact List.mem_append_right _ (JD h hc)
theorem Vk:∀ ts:List Tm,ts.length≤szs ts
 | []=>by simp [szs]
 | t :: r=>by
  have h1:=Vk r
  have h2:=LZ t
  simp only [szs,List.length_cons];lia
def pr (c:Int × Int):List Int:=[c.1,c.2]
def W8 (K:PySem.W.Frag) (n:Nat):Sp:=fun vs H Q _=>∃ (v:V) (t:Tm),vs=[v]∧TmV K H v t∧lv t≤n∧sz t≤1000 ∧
 ∀ (l:Addr) (H':Hp) (ts:List (Addr × List Int)),Same H H'→H l=none→H' l=some (.lst (Rf ts))→TsAt K H' ts→ts.map (·.2)=(cls t).map pr→Q (.ref l) H'
def Mh {α:Type} (K:PySem.W.Frag) (R:Hp→V→α→Prop) (op:Lab→Int→List α→α):Sp:=fun vs H Q _=>∃ (v:V) (u:Tm) (mk:Int) (lp:Addr) (ys:List V) (xs:List α),vs=[v,.int mk,.ref lp]∧TmV K H v u∧isC (lab u)=false∧H lp=some (.lst ys)∧RAll R H ys xs∧xs.length≤100 ∧
 ∀ (v':V) (H':Hp),Same H H'→R H' v' (op (lab u) mk xs)→Q v' H'
def Zj {α:Type} (K:PySem.W.Frag) (e:Expr) (R:Hp→V→α→Prop) (op:Lab→Int→List α→α) (n:Nat):Sp:=fun vs H Q _=>∃ (v:V) (u:Tm) (mk:Int) (lb f:Addr) (ds:List Addr) (cv:Int→Int→α),vs=[v,.int mk,.ref lb,.ref f]∧TmV K H v u∧lv u≤n∧sz u≤100∧SqL K H lb (ds.map V.ref)∧BelAt R H ds cv (cls u)∧LamAt H f e ∧
 ∀ (v':V) (H':Hp),Same H H'→R H' v' (Uf (fun l xs=>op l mk xs) cv u)→Q v' H'
section
variable {P:Program} {w:World} {K:PySem.W.Frag} {mg:Str→Option Value} {base:Heap} {f:Addr} {fd:FuncData}
theorem Po:FnScope ["term", "told", "part"] ["term"] (defScope sCO):=(1:)
theorem P0 {n:Nat} (F:Fun K "calls_of" "calls_of" sCO f fd) (G:Gm mg) (RC:Fn P w K mg base 1 "is_call" ["term"] (UO K)) (R:Fn P w K mg base (n + 1) "calls_of" ["term"] (W8 K n)):FnOk P w K mg base CX0 (n + 2) f fd ["term"] (W8 K (n + 1)):=by
 refine F.ok Po (8:) (4:)
 ·obtain ⟨v,t,rfl,_⟩:=h
  rfl
 obtain ⟨v,t,rfl,ht,hlv,hsz,q⟩:=h
 refine ⟨_,(Qe (QL (ZW (Qq RC hr (Qa (pv 0) Qc) (Nat.le_add_left 1 n))) (Qh (Qp (QF (Qa ((Qz (Qa (25:) (Qa (25:) Qc)))) Qc)))) Qu)
  (Qe (Qn (i:=1) Po.nd rfl (12:) (QF Qc))
  (Qe (QU PassesOwn.never rfl (Jr (25:)) (QC (i:=2) Po.nd rfl (12:))
   (Qh (QI (Zk PySem.F.plainAttrs_list PySem.F.slot_list_extend PySem.F.type_list_extend JC (pv 1) (Qa (Qq R hr (Qa (pv 2) Qc) (7:)) Qc)))))
  (Qh (Qp (pv 1)))))),?_⟩
 refine ⟨_,rfl,v,t,rfl,ht,_,rfl,?_⟩
 rcases ZQ ht with ⟨a,m,b,rfl,rfl,h1⟩ | ⟨a,b,bs,nm,k,ad,rfl,et,h1,h2,h3,h4⟩
 ·refine QZ ⟨_,rfl,a,_,1,_,rfl,rfl,h1,rfl,_,rfl,a,_,2,_,rfl,rfl,h1,rfl,(44:),fun p hp=>⟨(45:),fun l hl=>?_⟩⟩
  have g1:=Qf hp (.tup [.int m,.int b])
  have g2:=Qf hl (.lst [.ref p])
  refine q l _ [(p,[m,b])] (g1.trans g2) (g1.free hl) Qb (fun x hx=>?_) rfl
  have:x=(p,[m,b]):=by simpa using hx
  rw [this]
  exact g2.seqT (SqT.of Qb)
 have ecls:cls t=Zh t.bs:=by
  have:=congrArg cls et
  rw [this];simp [cls,lcl]
 rw [et]
 refine ZE ?_
 have hlen:=h3.length
 rw [Zg] at hlv
 rw [LZ] at hsz
 rw [ecls] at q
 refine ⟨(15:),fun l hl=>?_⟩
 have g0:=Qf hl (.lst [])
 refine ⟨_,rfl,a,_,4,_,rfl,rfl,g0.seqT h1,rfl,b,rfl,⟨_,g0.seqT h2⟩,?_⟩
 refine XJ (K:=K) (xs:=bs) (fun i σ H'=>∃ (ts:List (Addr × List Int)) (c1:Option V),σ=[some (.ref a),some (.ref l),c1]∧Same H H'∧H' l=some (.lst (Rf ts))∧TsAt K H' ts∧ts.map (·.2)=(Zh (t.bs.take i)).map pr)
  ⟨[],none,rfl,g0,Qb,fun x hx=>(nomatch hx),by simp [Zh]⟩ ?_ ?_ ?_
 ·rintro i σ H' _ ⟨ts,c1,_,g,_⟩
  exact g.seqT h2
 ·rintro i x σ H' hx ⟨ts,c1,rfl,g,hl',hts,hcl⟩
  have hi:i < bs.length:=(List.getElem?_eq_some_iff.mp hx).1
  obtain ⟨c,hc⟩ : ∃ c,t.bs[i]?=some c:=⟨_,List.getElem?_eq_getElem (10:)⟩
  obtain ⟨cv,hcv,hct⟩:=h3.get hc
  obtain rfl:cv=x:=Option.some.inj (hcv.symm.trans hx)
  have hm:=List.mem_of_getElem? hc
  have a1:=Yv hm
  have a2:=Oy hm
  refine ⟨_,rfl,.inl ⟨rfl,_,SqL.of hl'⟩,_,rfl,cv,c,rfl,hct.mono fun _ _=>g.seqT,by lia,by lia,fun lb Hb tsb gb hlbn hlb htb hclb=>?_⟩
  have hl2:=gb _ _ hl'
  have tl:ts.length≤szs t.bs:=by
   have e:=congrArg List.length hcl
   rw [List.length_map,List.length_map] at e
   have h5:=UL (t.bs.take i)
   have hle:szs (t.bs.take i)≤szs t.bs:=by
    have e:=Uu (t.bs.take i ++ t.bs.drop i)
    rw [List.map_append,List.sum_append,Uu,Uu,List.take_append_drop] at e
    lia
   lia
  have tl2:tsb.length≤sz c:=by
   have e:=congrArg List.length hclb
   rw [List.length_map,List.length_map] at e
   have h5:=VC c
   lia
  refine ⟨l,lb,_,_,rfl,rfl,hl2,hlb,?_,?_⟩
  ·rw [List.length_map,List.length_map];exact Q7 (10:)
  refine ⟨ts ++ tsb,_,rfl,fun x u e=>?_,by rw [Qb];simp,?_,?_⟩
  ·rw [Qg (Qi e hl)];exact gb _ _ (g _ _ e)
  ·exact (hts.mono fun _ _ h=>(gb.seqT h).put hl2).app (htb.mono fun _ _ h=>h.put hl2)
  ·rw [List.map_append,hcl,hclb,List.take_add_one,hc]
   show _=(Zh (t.bs.take i ++ [c])).map pr
   rw [JE,List.map_append]
 ·rintro σ H' ⟨ts,c1,rfl,g,hl',hts,hcl⟩
  rw [List.take_of_length_le (10:)] at hcl
  exact ⟨_,rfl,q l H' ts g hl hl' hts hcl⟩
theorem NW {k:Nat}:FnOk P w K mg base CX0 k f fd ["term"] (W8 K 0):=by
 have no:∀ vs H Q E,¬ W8 K 0 vs H Q E:=fun vs H Q E h=>by
  obtain ⟨v,t,_,_,h0,_⟩:=h
  rw [Zg] at h0;lia
 exact (28:)
theorem M0 (F:Fun K "calls_of" "calls_of" sCO f fd) (G:Gm mg) (RC:Fn P w K mg base 1 "is_call" ["term"] (UO K)) (hb:Binds K fd ["term"] []) (hm:mg "calls_of" = some (.ref f)):∀ n:Nat,FnOk P w K mg base CX0 (n + 1) f fd ["term"] (W8 K n)
 | 0=>NW
 | n + 1=>P0 F G RC ⟨f,fd,M0 F G RC hb hm n,hb,F.kp,hm⟩
theorem Pq:FnScope ["term", "mark", "below", "make"] ["term", "mark", "below", "make"] (defScope Jo):=(1:)
theorem Nr {α:Type} {e:Expr} {R:Hp→V→α→Prop} {op:Lab→Int→List α→α} (hR:Rep K R) {n:Nat} (F:Fun K "filled" "filled" Jo f fd) (G:Gm mg) (RC:Fn P w K mg base 1 "is_call" ["term"] (UO K)) (CV:W0 P w K mg base 2 e (Mh K R op)) (RF:Fn P w K mg base (n + 3) "filled" ["term", "mark", "below", "make"] (Zj K e R op n)) :
 FnOk P w K mg base CX0 (n + 4) f fd ["term", "mark", "below", "make"] (Zj K e R op (n + 1)):=by
 refine F.ok Pq (8:) (4:)
 ·obtain ⟨v,u,mk,lb,f,ds,cv,rfl,_⟩:=h
  rfl
 obtain ⟨v,u,mk,lb,fm,ds,cv,rfl,ht,hlv,hsz,hlb,hB,hL,q⟩:=h
 refine ⟨_,(Qe (QL (ZW (Qq RC hr (Qa (pv 0) Qc) (10:))) (Qh (Qp (Yl (Yw hr) (Qj Qm (pv 2) (25:) (2:)) (25:) (2:)))) Qu)
  (Qh (Qp (MH (i:=3) CV (hr.mono (10:)) (Qa (pv 0) (Qa (pv 1) (Qa (QP (CompG.many (xs:=["part"]) (caps:=["below", "make", "mark"]) (cap:=[2,3,1]) (cs:=[_,_,_]) rfl rfl (0:) (0:) (0:) (0:) (0:) (0:) rfl rfl rfl) rfl (Jr (25:)) (Zo (CompG.many (xs:=["part"]) (caps:=["below", "make", "mark"]) (cap:=[2,3,1]) (cs:=[_,_,_]) rfl rfl (0:) (0:) (0:) (0:) (0:) (0:) rfl rfl rfl)) (fun _ _ _ _=>Q2) (fun _ _ _ _=>Qq RF hr (Qa (pv 0) (Qa (pv 3) (Qa (pv 1) (Qa (pv 2) Qc)))) (7:))) Qc))))))),?_⟩
 refine ⟨_,rfl,v,u,rfl,ht,_,rfl,?_⟩
 rcases ZQ ht with ⟨a,m,b,rfl,rfl,h1⟩ | ⟨a,b,bs,nm,k,ad,rfl,et,h1,h2,h3,h4⟩
 ·obtain ⟨h0,d,kvs,x,e1,e2,e3,e4⟩:=hB (m,b) (by simp [ZB,cls,lcl,Zh])
  have em:b=((b.toNat:Nat):Int):=by
   have:(0:Int)≤b:=h0
   lia
  refine QZ ⟨_,rfl,_,rfl,a,_,2,_,rfl,rfl,h1,rfl,lb,_,b,.ref d,rfl,rfl,hlb,?_,_,rfl,a,_,1,_,rfl,rfl,h1,rfl,d,x,rfl,.inl ⟨kvs,.inl m,e2,rfl,e3.symm⟩,q x H (Same.refl _) e4⟩
  rw [em];exact Qv (by rw [List.getElem?_map,e1];rfl)
 have ecls:cls u=Zh u.bs:=by
  have:=congrArg cls et
  rw [this];simp [cls,lcl]
 have hlab:lab u=.put nm k ad:=by rw [et];rfl
 rw [ecls] at hB
 have hic:isC (lab u)=false:=by rw [hlab];rfl
 rw [hic]
 refine ZE ?_
 have hlen:=h3.length
 rw [Zg] at hlv
 rw [LZ] at hsz
 refine ⟨fm,rfl,_,rfl,_,rfl,_,rfl,a,_,4,_,rfl,rfl,h1,rfl,b,rfl,⟨_,h2⟩,fun acc hacc=>?_⟩
 refine Mn (K:=K) (xs:=bs) (cs:=[some (.ref lb),some (.ref fm),some (.int mk)]) (tt:=fun _ H Q=>Q true H) (te:=Wj (Zj K e R op n) [] E0 (Q0 (Zi 0) (Q0 (Zi 3) (Q0 (Zi 1) (Q0 (Zi 2) Jf))))) (fun i ys H'=>H' acc=some (.lst ys)∧Same H H'∧ys.length=i∧RAll R H' ys ((u.bs.take i).map (Uf (fun l xs=>op l mk xs) cv)))
  ⟨Qb,Qf hacc _,rfl,.nil⟩ ?_ ?_ ?_
 ·rintro i ys H' _ ⟨_,g,_⟩
  exact g.seqT h2
 ·rintro i x ys H' hi hx ⟨hya,g,hyl,hys⟩
  obtain ⟨c,hc⟩ : ∃ c,u.bs[i]?=some c:=⟨_,List.getElem?_eq_getElem (10:)⟩
  obtain ⟨cv',hcv,hct⟩:=h3.get hc
  obtain rfl:cv'=x:=Option.some.inj (hcv.symm.trans hx)
  have hm:=List.mem_of_getElem? hc
  have a1:=Yv hm
  have a2:=Oy hm
  refine QZ ⟨_,rfl,_,rfl,_,rfl,_,rfl,cv',c,mk,lb,fm,ds,cv,rfl,hct.mono fun _ _=>g.seqT,by lia,by lia,g.seq hlb,(hB.sub fun d hd=>JD hm hd).same hR g,hL.same g,fun v' H4 g4 hv'=>?_⟩
  refine QB (ys:=ys) hi (g4 _ _ hya) (10:) ⟨Qb,fun x u e=>?_,by simp [hyl],?_⟩
  ·rw [Qg (Qi e hacc)];exact g4 _ _ (g _ _ e)
  ·rw [List.take_add_one,hc]
   show RAll R _ (ys ++ [v']) ((u.bs.take i ++ [c]).map (Uf (fun l xs=>op l mk xs) cv))
   rw [List.map_append]
   refine RAll.append (hys.imp fun h=>hR _ _ _ _ (fun _ _ h=>(g4.seqT h).put (g4 _ _ hya)) h) (.cons (hR _ _ _ _ (fun _ _ h=>h.put (g4 _ _ hya)) hv') .nil)
 rintro ys H1 ⟨hya,g,hyl,hys⟩
 have et2:u.bs.take bs.length=u.bs:=List.take_of_length_le (10:)
 rw [et2] at hys
 have hbl:u.bs.length≤100:=by
  have:=Vk u.bs
  lia
 refine ⟨hL.same g,.ref a,u,mk,acc,ys,_,rfl,ht.mono fun _ _=>g.seqT,by rw [hlab];rfl,hya,hys,by rw [List.length_map];exact hbl,fun v' H2 g2 hv'=>q v' H2 (g.trans g2) ?_⟩
 rw [et]
 rw [hlab] at hv'
 simp only [Uf,U3]
 exact hv'
theorem Gd {α:Type} {e:Expr} {R:Hp→V→α→Prop} {op:Lab→Int→List α→α} {k:Nat}:FnOk P w K mg base CX0 k f fd ["term", "mark", "below", "make"] (Zj K e R op 0):=by
 have no:∀ vs H Q E,¬ Zj K e R op 0 vs H Q E:=fun vs H Q E h=>by
  obtain ⟨v,u,mk,lb,f,ds,cv,_,_,h0,_⟩:=h
  rw [Zg] at h0;lia
 exact (28:)
theorem YR {α:Type} {e:Expr} {R:Hp→V→α→Prop} {op:Lab→Int→List α→α} (hR:Rep K R) (F:Fun K "filled" "filled" Jo f fd) (G:Gm mg) (RC:Fn P w K mg base 1 "is_call" ["term"] (UO K)) (CV:W0 P w K mg base 2 e (Mh K R op)) (hb:Binds K fd ["term", "mark", "below", "make"] []) (hm:mg "filled" = some (.ref f)):∀ n:Nat,FnOk P w K mg base CX0 (n + 3) f fd ["term", "mark", "below", "make"] (Zj K e R op n)
 | 0=>Gd
 | n + 1=>Nr hR F G RC CV ⟨f,fd,YR hR F G RC CV hb hm n,hb,F.kp,hm⟩
end
end K25
namespace K25
open PySem L2 TM TT K9 K11
structure Mo (K:PySem.W.Frag) (H H':Hp):Prop where
 t:∀ a xs,SqT K H a xs→SqT K H' a xs
 l:∀ a xs,SqL K H a xs→SqL K H' a xs
theorem Mo.of {K:PySem.W.Frag} {H H':Hp} (g:Same H H'):Mo K H H':=⟨fun _ _=>g.seqT,fun _ _=>g.seq⟩
theorem Mo.trans {K:PySem.W.Frag} {H H1 H2:Hp} (a:Mo K H H1) (b:Mo K H1 H2):Mo K H H2:=⟨fun _ _ h=>b.t _ _ (a.t _ _ h),fun _ _ h=>b.l _ _ (a.l _ _ h)⟩
theorem Mo.sx {K:PySem.W.Frag} {H H':Hp} {d:Addr} {u:HO} (hd:H d=some u) (h1:∀ xs,u≠.tup xs) (h2:∀ xs,u≠.lst xs) (h3:∀ o xs,u≠.frz o (.tup xs)) (h4:∀ o xs,u≠.frz o (.lst xs)) (g:SameX d H H'):Mo K H H':=by
 constructor
 ·intro a xs h
  rcases h with (h | ⟨o,h⟩) | h
  ·exact .inl (.inl (g _ _ (QS h hd (fun z=>h1 xs z.symm)) h))
  ·exact .inl (.inr ⟨o,g _ _ (QS h hd (fun z=>h3 o xs z.symm)) h⟩)
  ·exact .inr h
 ·intro a xs h
  rcases h with (h | ⟨o,h⟩) | h
  ·exact .inl (.inl (g _ _ (QS h hd (fun z=>h2 xs z.symm)) h))
  ·exact .inl (.inr ⟨o,g _ _ (QS h hd (fun z=>h4 o xs z.symm)) h⟩)
  ·exact .inr h
theorem Mo.dk {K:PySem.W.Frag} {H H':Hp} {d:Addr} {kvs:List (Key × V)} (hd:H d=some (.dK kvs)) (g:SameX d H H'):Mo K H H':=Mo.sx hd (fun _ z=>nomatch z) (fun _ z=>nomatch z) (fun _ _ z=>nomatch z) (fun _ _ z=>nomatch z) g
theorem Mo.fz {K:PySem.W.Frag} {H H':Hp} {d:Addr} {ob:Obj} {kvs:List (Key × V)} (hd:H d=some (.frz ob (.dK kvs))) (g:SameX d H H'):Mo K H H':=Mo.sx hd (fun _ z=>nomatch z) (fun _ z=>nomatch z) (fun _ _ z=>nomatch z) (fun _ _ z=>nomatch z) g
theorem Mo.wood {K:PySem.W.Frag} {H H':Hp} {w:Addr} {ks:List KdT} (g:Mo K H H') (h:WoodAt K H w ks):WoodAt K H' w ks:=⟨g.l _ _ h.1,fun k hk=>⟨g.t _ _ (h.2 k hk).1,g.l _ _ (h.2 k hk).2.1,fun t ht=>⟨g.t _ _ ((h.2 k hk).2.2 t ht).1,g.t _ _ ((h.2 k hk).2.2 t ht).2⟩⟩⟩
theorem Mo.modes {K:PySem.W.Frag} {H H':Hp} {lm:Addr} {ms:List MdT} (g:Mo K H H') (h:ModesL K H lm ms):ModesL K H' lm ms:=⟨g.l _ _ h.1,fun m hm=>⟨g.t _ _ (h.2 m hm).1,g.l _ _ (h.2 m hm).2.1,(h.2 m hm).2.2.mono g.t⟩⟩
theorem Mo.turn {K:PySem.W.Frag} {H H':Hp} {tu wd lm:Addr} {v:V} {ms:List MdT} {T:Tu} (g:Mo K H H') (h:TurnAt K H tu wd lm v ms T):TurnAt K H' tu wd lm v ms T:=⟨g.t _ _ h.tu,g.wood h.w,g.modes h.m,h.s.mono g.t⟩
theorem few:∀ {n:Nat} {fs:List Int},fs.Nodup→(∀ m ∈ fs,0≤m∧m < (n:Int))→fs.length≤n
 | 0,[],_,_=>Nat.le_refl _
 | 0,m :: _,_,h=>by have:=h m List.mem_cons_self;lia
 | n + 1,fs,hn,h=>by
  have h1:(fs.filter fun m=>decide (m≠(n:Int))).length≤n:=few (hn.sublist List.filter_sublist) fun m hm=>by
   obtain ⟨h2,h3⟩:=List.mem_filter.mp hm
   have h4:=h m h2
   have h5:m≠(n:Int):=of_decide_eq_true h3
   lia
  have h2:fs.length≤(fs.filter fun m=>decide (m≠(n:Int))).length + 1:=by
   clear h h1
   induction fs with
   | nil=>simp
   | cons a r ih =>
    obtain ⟨ha,hr⟩:=List.nodup_cons.mp hn
    by_cases e:a=(n:Int)
    ·have:r.filter (fun m=>decide (m≠(n:Int)))=r:=List.filter_eq_self.mpr fun x hx=>decide_eq_true fun z=>ha (by rw [e,← z];exact hx)
     rw [List.filter_cons_of_neg (by simp [e]),this];simp
    ·have:=ih hr
     rw [List.filter_cons_of_pos (by simp [e])]
     simp only [List.length_cons];lia
  lia
abbrev RuL:=List (Int × V × Tm)
def kvI (ps:RuL):List (Key × V):=ps.map fun p=>(Sum.inl p.1,p.2.1)
theorem Yh (ps:RuL):(kvI ps).length=ps.length:=List.length_map ..
theorem Wr {ps:RuL} {m:Int} (h:m ∉ ps.map (·.1)):Zp (kvI ps) (Sum.inl m:Key)=none:=by
 induction ps with
 | nil=>rfl
 | cons p r ih =>
  simp only [List.map_cons,List.mem_cons,not_or] at h
  show Zp ((Sum.inl p.1,p.2.1) :: kvI r) _=none
  rw [Zr (fun z=>h.1 (by cases z;rfl)),ih h.2]
theorem MV {ps:RuL} {m:Int} (h:m ∈ ps.map (·.1)):∃ v,Zp (kvI ps) (Sum.inl m:Key)=some v:=by
 induction ps with
 | nil=>simp at h
 | cons p r ih =>
  by_cases e:p.1=m
  ·exact ⟨p.2.1,ZM (p:=((Sum.inl p.1:Key),p.2.1)) (by show (Sum.inl p.1:Key)=_;rw [e])⟩
  ·simp only [List.map_cons,List.mem_cons] at h
   rcases h with h | h
   ·exact absurd h.symm e
   ·obtain ⟨v,hv⟩:=ih h
    exact ⟨v,by show Zp ((Sum.inl p.1,p.2.1) :: kvI r) _=some v;rw [Zr (fun z=>e (by cases z;rfl)),hv]⟩
theorem NG {ps:RuL} {m:Int} {v:V} (u:Tm) (h:m ∉ ps.map (·.1)):Yf (kvI ps) (Sum.inl m:Key) v=kvI (ps ++ [(m,v,u)]):=by
 rw [M3 v (Wr h)]
 simp [kvI]
structure RuAt (K:PySem.W.Frag) (H:Hp) (d:Addr) (ps:RuL):Prop where
 d:H d=some (.dK (kvI ps))
 t:∀ p ∈ ps,TmV K H p.2.1 p.2.2
structure RlC (T:Tu) (c:Tree Str) (m:Int) (u:Tm):Prop where
 m0:0≤m
 ex:∃ md,T.ms[m.toNat]?=some md∧Zv T.ks md (nmT c)=some u∧u ∈ md.2
 st:St T (u,c)
structure Ned (K:PySem.W.Frag) (H0 H:Hp) (T:Tu) (r:Tree Str) (ld:Addr) (es:List (Addr × RuL)) (dn:Int→Int→Prop):Prop where
 l:H ld=some (.lst (es.map fun e=>V.ref e.1))
 fl:H0 ld=none
 len:es.length=r.bs.length
 inj:∀ (i j:Nat) a b,es[i]?=some a→es[j]?=some b→a.1=b.1→i=j
 fr:∀ (i:Nat) e,es[i]?=some e→H0 e.1=none
 at':∀ (i:Nat) e,es[i]?=some e→H e.1=some (.dK (kvI e.2))∧(e.2.map (·.1)).Nodup
 ok:∀ (i:Nat) e c,es[i]?=some e→r.bs[i]?=some c→∀ p ∈ e.2,TmV K H p.2.1 p.2.2∧RlC T c p.1 p.2.2
 dn:∀ m b,dn m b→∃ e,es[b.toNat]?=some e∧m ∈ e.2.map (·.1)
theorem Ned.same {K:PySem.W.Frag} {H0 H H':Hp} {T:Tu} {r:Tree Str} {l:Addr} {es:List (Addr × RuL)} {dn:Int→Int→Prop} (g:Same H H') (h:Ned K H0 H T r l es dn):Ned K H0 H' T r l es dn :=
 ⟨g _ _ h.l,h.fl,h.len,h.inj,h.fr,fun i e he=>⟨g _ _ (h.at' i e he).1,(h.at' i e he).2⟩,fun i e c he hc p hp=>⟨(h.ok i e c he hc p hp).1.mono fun _ _=>g.seqT,(h.ok i e c he hc p hp).2⟩,h.dn⟩
theorem Ned.imp {K:PySem.W.Frag} {H0 H:Hp} {T:Tu} {r:Tree Str} {l:Addr} {es:List (Addr × RuL)} {dn dn':Int→Int→Prop} (h:Ned K H0 H T r l es dn) (k:∀ m b,dn' m b→∃ e,es[b.toNat]?=some e∧m ∈ e.2.map (·.1)):Ned K H0 H T r l es dn':=⟨h.l,h.fl,h.len,h.inj,h.fr,h.at',h.ok,k⟩
theorem YK {α:Type} {es:List α} {i j:Nat} {x y:α} (h:(es.set i x)[j]?=some y):(j=i∧y=x)∨(j≠i∧es[j]?=some y):=by
 rw [List.getElem?_set] at h
 by_cases e:i=j
 ·rw [if_pos e] at h
  split at h
  ·exact .inl ⟨e.symm,(Option.some.inj h).symm⟩
  ·cases h
 ·rw [if_neg e] at h
  exact .inr ⟨Ne.symm e,h⟩
theorem Ned.put {K:PySem.W.Frag} {H0 H:Hp} {T:Tu} {r:Tree Str} {l:Addr} {es:List (Addr × RuL)} {dn:Int→Int→Prop} (h:Ned K H0 H T r l es dn) {i:Nat} {e:Addr × RuL} {c:Tree Str} {m:Int} {v:V} {u:Tm} (he:es[i]?=some e) (hc:r.bs[i]?=some c) (hm:m ∉ e.2.map (·.1)) (hv:TmV K H v u) (hr:RlC T c m u) :
 Ned K H0 (upd H e.1 (.dK (kvI (e.2 ++ [(m,v,u)])))) T r l (es.set i (e.1,e.2 ++ [(m,v,u)])) (fun m' b'=>dn m' b'∨(m'=m∧b'.toNat=i)):=by
 have hd:=(h.at' i e he).1
 have hi:i < es.length:=(List.getElem?_eq_some_iff.mp he).1
 have g:Mo K H (upd H e.1 (.dK (kvI (e.2 ++ [(m,v,u)])))):=Mo.dk hd SameX.upd
 have emap:(es.set i (e.1,e.2 ++ [(m,v,u)])).map (fun e=>V.ref e.1)=es.map fun e=>V.ref e.1:=by
  apply List.ext_getElem?
  intro j
  rw [List.getElem?_map,List.getElem?_map,List.getElem?_set]
  by_cases z:i=j
  ·subst z
   rw [if_pos rfl,if_pos hi,he];rfl
  ·rw [if_neg z]
 refine ⟨?_,h.fl,by rw [List.length_set];exact h.len,fun a b x y hx hy z=>?_,fun j x hx=>?_,fun j x hx=>?_,fun j x c' hx hc' p hp=>?_,fun m' b' hdn=>?_⟩
 ·rw [emap,Qg (QS h.l hd (32:))];exact h.l
 ·rcases YK hx with ⟨rfl,rfl⟩ | ⟨_,hx'⟩ <;> rcases YK hy with ⟨rfl,rfl⟩ | ⟨_,hy'⟩
  ·rfl
  ·exact h.inj _ _ _ _ he hy' z
  ·exact h.inj _ _ _ _ hx' he z
  ·exact h.inj _ _ _ _ hx' hy' z
 ·rcases YK hx with ⟨rfl,rfl⟩ | ⟨_,hx⟩
  ·exact h.fr _ e he
  ·exact h.fr _ _ hx
 ·rcases YK hx with ⟨rfl,rfl⟩ | ⟨nj,hx⟩
  ·refine ⟨Qb,?_⟩
   show ((e.2 ++ [(m,v,u)]).map (·.1)).Nodup
   rw [List.map_append]
   refine List.nodup_append.mpr ⟨(h.at' _ e he).2,by simp,fun a ha b hb=>?_⟩
   have:b=m:=by simpa using hb
   rw [this]
   exact fun z=>hm (z ▸ ha)
  ·refine ⟨?_,(h.at' _ _ hx).2⟩
   rw [Qg (fun z=>nj (h.inj _ _ _ _ hx he z))]
   exact (h.at' _ _ hx).1
 ·rcases YK hx with ⟨rfl,rfl⟩ | ⟨nj,hx⟩
  ·obtain rfl:c'=c:=Option.some.inj (hc'.symm.trans hc)
   rcases List.mem_append.mp hp with hp | hp
   ·exact ⟨(h.ok _ _ _ he hc _ hp).1.mono g.t,(h.ok _ _ _ he hc _ hp).2⟩
   ·have:p=(m,v,u):=by simpa using hp
    rw [this]
    exact ⟨hv.mono g.t,hr⟩
  ·exact ⟨(h.ok _ _ _ hx hc' _ hp).1.mono g.t,(h.ok _ _ _ hx hc' _ hp).2⟩
 ·rcases hdn with hdn | ⟨rfl,hb⟩
  ·obtain ⟨x,hx,hxm⟩:=h.dn _ _ hdn
   by_cases z:b'.toNat=i
   ·rw [z] at hx
    obtain rfl:x=e:=Option.some.inj (hx.symm.trans he)
    refine ⟨(x.1,x.2 ++ [(m,v,u)]),by rw [z,List.getElem?_set,if_pos rfl,if_pos hi],?_⟩
    show m' ∈ (x.2 ++ [(m,v,u)]).map (·.1)
    rw [List.map_append]
    exact List.mem_append_left _ hxm
   ·exact ⟨x,by rw [List.getElem?_set,if_neg (Ne.symm z)];exact hx,hxm⟩
  ·exact ⟨(e.1,e.2 ++ [(m',v,u)]),by rw [hb,List.getElem?_set,if_pos rfl,if_pos hi],by simp⟩
def Om (K:PySem.W.Frag):Sp:=fun vs H Q _=>∃ (tu wd lm:Addr) (sv:V) (mo:List MdT) (T:Tu) (d:Addr) (ps:RuL) (rv:V) (r:Tree Str),vs=[.ref tu,.ref d,rv]∧TurnAt K H tu wd lm sv mo T∧TurnOk mo T∧mo.length≤10∧RuAt K H d ps∧TrV K H rv r∧(∀ p ∈ ps,St T (p.2.2,r)∧lv p.2.2≤8∧sz p.2.2≤100) ∧
 ∀ (l:Addr) (H':Hp) (es:List (Addr × RuL)),Same H H'→Ned K H H' T r l es (fun m b=>∃ p ∈ ps,(m,b) ∈ cls p.2.2)→Q (.ref l) H'
structure Wlk (K:PySem.W.Frag) (H0 H:Hp) (d:Addr) (o:Obj) (kvs:List (Key × V)) (T:Tu) (r:Tree Str) (l:Addr) (es:List (Addr × RuL)) (dn:Int→Int→Prop):Prop where
 x:SameX d H0 H
 d:H d=some (.frz o (.dK kvs))
 n:Ned K H0 H T r l es dn
theorem Wlk.same {K:PySem.W.Frag} {H0 H H':Hp} {d:Addr} {o:Obj} {kvs:List (Key × V)} {T:Tu} {r:Tree Str} {l:Addr} {es:List (Addr × RuL)} {dn:Int→Int→Prop} (g:Same H H') (h:Wlk K H0 H d o kvs T r l es dn):Wlk K H0 H' d o kvs T r l es dn:=⟨h.x.trans (SameX.of g),g _ _ h.d,h.n.same g⟩
section
variable {P:Program} {w:World} {K:PySem.W.Frag} {mg:Str→Option Value} {base:Heap} {f:Addr} {fd:FuncData}
theorem G3:FnScope ["turning", "rules", "tree", "needed", "rule", "mode", "branch"] ["turning", "rules", "tree"] (defScope Ms):=(1:)
theorem R0 (F:Fun K "called_below" "called_below" Ms f fd) (G:Gm mg) (RO:Fn P w K mg base 9 "calls_of" ["term"] (W8 K 8)) (RR:Fn P w K mg base 2 "rule_of" ["turning", "mode", "name"] (J0 K)):FnOk P w K mg base CX0 10 f fd ["turning", "rules", "tree"] (Om K):=by
 refine F.ok G3 (8:) (4:)
 ·obtain ⟨tu,wd,lm,sv,mo,T,d,ps,rv,r,rfl,_⟩:=h
  rfl
 obtain ⟨tu,wd,lm,sv,mo,T,d,ps,rv,r,rfl,hT,hO,hm10,hru,htr,hps,q⟩:=h
 refine ⟨_,(Qe (ZV (i:=3) (CompG.many (xs:=["branch"]) (caps:=[]) (cap:=[]) (cs:=[]) rfl rfl (0:) (0:) (0:) (0:) (0:) (0:) rfl rfl rfl) rfl (Jr (Qj Qk (pv 2) Qd (2:))) (Zo (CompG.many (xs:=["branch"]) (caps:=[]) (cap:=[]) (cs:=[]) rfl rfl (0:) (0:) (0:) (0:) (0:) (0:) rfl rfl rfl)) (fun _ _ _ _=>Q2) (fun _ _ _ _=>GW) G3.nd rfl rfl)
  (Qe (VB (QU PassesOwn.never rfl (LM (W1 PySem.F.plainAttrs_dict PySem.F.slot_dict_values PySem.F.type_dict_values V8 (pv 1))) (QC (i:=4) G3.nd rfl (12:)) (Qh
   (QU PassesOwn.never rfl (QT (Qq RO hr (Qa (pv 4) Qc))) (UG rfl (Q4 (QC (i:=5) G3.nd rfl (12:)) (Q4 (QC (i:=6) G3.nd rfl (12:)) YL))) (Qh
    (QL (MR (Gg (Yw hr) (pv 5) (Qj Qm (pv 3) (pv 6) (2:)))) (Qh
     (Nt (Yw hr) (Qj Qm (pv 3) (pv 6) (2:)) (pv 5) (Qq RR hr (Qa (pv 0) (Qa (pv 5) (Qa (Qj Qk (Qj Qk (Qj Qk (pv 2) Qd (2:)) (pv 6) (2:)) Qd (2:)) Qc)))) rfl)) Qu))))))
  (Qh (Qp (pv 3))))),?_⟩
 cases htr with
 | @mk a b us ts name mark h1 h2 h3 h4 =>
 have hul:=h3.length
 refine ⟨_,rfl,a,_,2,_,rfl,rfl,h1,rfl,b,rfl,⟨_,h2⟩,fun acc hacc=>?_⟩
 refine Mn (K:=K) (xs:=us) (cs:=[]) (tt:=fun _ H Q=>Q true H) (te:=MQ) (fun i ys H'=>∃ as:List Addr,ys=as.map V.ref∧H' acc=some (.lst ys)∧Same H H'∧as.length=i∧(∀ (j:Nat) x,as[j]?=some x→H' x=some (.dK [])∧H x=none)∧∀ (i j:Nat) x y,as[i]?=some x→as[j]?=some y→x=y→i=j)
  ⟨[],rfl,Qb,Qf hacc _,rfl,fun j x h=>by simp at h,fun i j x y h=>by simp at h⟩ ?_ ?_ ?_
 ·rintro i ys H' _ ⟨_,_,_,g,_⟩
  exact g.seqT h2
 ·rintro i x ys H' hi hx ⟨as,rfl,hya,g,hal,has,hin⟩
  refine QZ fun p hp=>?_
  have g2:=Qf hp (.dK [])
  have hya2:=g2 _ _ hya
  have hpa:p≠acc:=fun z=>by rw [z,hya] at hp;cases hp
  refine QB (ys:=as.map V.ref) hi hya2 (29:) ⟨as ++ [p],by simp,Qb,fun x u e=>?_,by simp [hal],fun j x hx=>?_,fun i j x y hx hy=>?_⟩
  ·rw [Qg (Qi e hacc)];exact g2 _ _ (g _ _ e)
  ·rw [List.getElem?_append] at hx
   split at hx
   ·obtain ⟨e1,e2⟩:=has j x hx
    refine ⟨?_,e2⟩
    rw [Qg (QS (g2 _ _ e1) hya2 (32:))];exact g2 _ _ e1
   ·have e:x=p:=by
     have:=List.mem_of_getElem? hx
     simpa using this
    subst e
    exact ⟨by rw [Qg hpa];exact Qb,g.free hp⟩
  ·have key:∀ (i:Nat) x,(as ++ [p])[i]?=some x→(i < as.length∧as[i]?=some x)∨(i=as.length∧x=p):=fun i x hx=>by
    rw [List.getElem?_append] at hx
    split at hx
    ·exact .inl ⟨by assumption,hx⟩
    ·have e:x=p:=by
      have:=List.mem_of_getElem? hx
      simpa using this
     have:=(List.getElem?_eq_some_iff.mp hx).1
     simp only [List.length_singleton] at this
     exact .inr ⟨by lia,e⟩
   intro z
   rcases key i x hx with ⟨_,hx⟩ | ⟨ei,ex⟩ <;> rcases key j y hy with ⟨_,hy⟩ | ⟨ej,ey⟩
   ·exact hin _ _ _ _ hx hy z
   ·have:=(has _ _ hx).1
    rw [z,ey,hp] at this;cases this
   ·have:=(has _ _ hy).1
    rw [← z,ex,hp] at this;cases this
   ·lia
 rintro ys H1 ⟨as,rfl,hya,g1,hal,has,hin⟩
 have hd1:=g1 _ _ hru.d
 have hN1:Ned K H H1 T (53:) acc (as.map fun x=>(x,([]:RuL))) (fun _ _=>False):=by
  have key:∀ (i:Nat) e,(as.map fun x=>(x,([]:RuL)))[i]?=some e→as[i]?=some e.1∧e.2=[]:=fun i e he=>by
   rw [List.getElem?_map] at he
   cases h:as[i]? with
   | none=>rw [h] at he;cases he
   | some x=>rw [h] at he;cases he;exact ⟨rfl,rfl⟩
  refine ⟨by rw [List.map_map];exact hya,hacc,by rw [List.length_map,hal];exact hul,fun i j x y hx hy z=>hin _ _ _ _ (key _ _ hx).1 (key _ _ hy).1 z,fun i e he=>(has _ _ (key _ _ he).1).2,fun i e he=>?_,fun i e c he _ p hp=>?_,fun _ _ z=>z.elim⟩
  ·rw [(key _ _ he).2]
   exact ⟨(has _ _ (key _ _ he).1).1,by simp⟩
  ·rw [(key _ _ he).2] at hp
   cases hp
 refine ⟨d,kvI ps,hd1,_,rfl,.inr (.inr (.inl ⟨rfl,.inl ⟨_,hd1⟩⟩)),d,kvI ps,rfl,rfl,hd1,fun pv hpv=>⟨pv,d,kvI ps,rfl,Qb,Qf hpv _ _ _ hd1,fun o=>?_⟩⟩
 have g2:=Qf hpv (ValO pv d)
 have hd2:=g2 _ _ hd1
 have hN2:=hN1.same g2
 have gg:=g1.trans g2
 generalize upd H1 pv (ValO pv d)=H2 at g2 hd2 hN2 gg
 have hdn:∀ (i:Nat) (e:Addr × RuL) (es:List (Addr × RuL)),(∀ (i:Nat) e,es[i]?=some e→H e.1=none)→es[i]?=some e→e.1≠d:=fun i e es hf he z=>by
  have:=hf i e he
  rw [z,hru.d] at this;cases this
 have hW2:Wlk K H (upd H2 d (.frz o (.dK (kvI ps)))) d o (kvI ps) T (53:) acc (as.map fun x=>(x,([]:RuL))) (fun m b=>∃ p ∈ ps.take 0,(m,b) ∈ cls p.2.2):=by
  have gm:Mo K H2 (upd H2 d (.frz o (.dK (kvI ps)))):=Mo.dk hd2 SameX.upd
  refine ⟨(SameX.of gg).trans SameX.upd,Qb,⟨?_,hN2.fl,hN2.len,hN2.inj,hN2.fr,fun i e he=>?_,fun i e c he hc p hp=>⟨(hN2.ok i e c he hc p hp).1.mono gm.t,(hN2.ok i e c he hc p hp).2⟩,fun m b h=>?_⟩⟩
  ·rw [Qg (QS hN2.l hd2 (32:))];exact hN2.l
  ·rw [Qg (hdn i e _ hN2.fr he)];exact hN2.at' i e he
  ·obtain ⟨p,hp,_⟩:=h
   simp at hp
 refine V1 (d:=d) (o:=o) (kvs:=kvI ps) (fun i σ H'=>∃ (c4 c5 c6:Option V) (es:List (Addr × RuL)),σ=[some (.ref tu),some (.ref d),some (.ref a),some (.ref acc),c4,c5,c6]∧Wlk K H H' d o (kvI ps) T (53:) acc es (fun m b=>∃ p ∈ ps.take i,(m,b) ∈ cls p.2.2))
  ⟨none,none,none,_,rfl,hW2⟩ ?_ ?_ ?_
 ·rintro i σ H' _ ⟨_,_,_,_,_,hW⟩
  exact hW.d
 ·rintro i k x σ H3 hx ⟨c4,c5,c6,es,rfl,hW⟩
  obtain ⟨p,hp,hpx⟩ : ∃ p,ps[i]?=some p∧p.2.1=x:=by
   rw [kvI,List.getElem?_map] at hx
   cases h:ps[i]? with
   | none=>rw [h] at hx;cases hx
   | some p=>rw [h] at hx;cases hx;exact ⟨p,rfl,rfl⟩
  subst hpx
  have hpm:=List.mem_of_getElem? hp
  obtain ⟨hst,hlv,hsz⟩:=hps p hpm
  have gm3:Mo K H H3:=Mo.dk hru.d hW.x
  refine ⟨_,rfl,p.2.1,p.2.2,rfl,(hru.t p hpm).mono gm3.t,hlv,Nat.le_trans hsz (27:),fun lc H4 tx g4 hlcn hlc htx hcl=>⟨lc,rfl,⟨_,SqL.of hlc⟩,?_⟩⟩
  have hW4:=hW.same g4
  have htxl:tx.length=(cls p.2.2).length:=by
   have:=congrArg List.length hcl
   simpa using this
  refine ZF (K:=K) (xs:=Rf tx) (fun j σ H'=>∃ (c5 c6:Option V) (es:List (Addr × RuL)),σ=[some (.ref tu),some (.ref d),some (.ref a),some (.ref acc),some p.2.1,c5,c6]∧Wlk K H H' d o (kvI ps) T (53:) acc es (fun m b=>(∃ p ∈ ps.take i,(m,b) ∈ cls p.2.2)∨(m,b) ∈ (cls p.2.2).take j)∧SqL K H' lc (Rf tx)∧TsAt K H' tx)
   ⟨_,_,es,rfl,⟨hW4.x,hW4.d,hW4.n.imp fun m b h=>hW4.n.dn m b (by rcases h with h | h;exact h;simp at h)⟩,SqL.of hlc,htx⟩ ?_ ?_ ?_
  ·rintro j σ H' _ ⟨_,_,_,_,_,h,_⟩
   exact h
  ·rintro j x σ H5 hx ⟨c5,c6,es5,rfl,hW5,hlc5,htx5⟩
   have hj:j < tx.length:=by
    have:=(List.getElem?_eq_some_iff.mp hx).1
    simpa using this
   obtain rfl:x=.ref tx[j].1:=by
    rw [List.getElem?_map,List.getElem?_eq_getElem hj] at hx
    exact (Option.some.inj hx).symm
   have hjc:j < (cls p.2.2).length:=by lia
   have etx:tx[j].2=pr (cls p.2.2)[j]:=by
    have:=congrArg (fun l=>l[j]?) hcl
    simp only [List.getElem?_map,List.getElem?_eq_getElem hj,List.getElem?_eq_getElem hjc,Option.map_some] at this
    exact Option.some.inj this
   have htc:SqT K H5 tx[j].1 [.int (cls p.2.2)[j].1,.int (cls p.2.2)[j].2]:=by
    have:=htx5 tx[j] (List.getElem_mem hj)
    rw [etx] at this
    exact this
   have htake:(cls p.2.2).take (j + 1)=(cls p.2.2).take j ++ [(cls p.2.2)[j]]:=by rw [List.take_add_one,List.getElem?_eq_getElem hjc];rfl
   have hcm:(cls p.2.2)[j] ∈ cls p.2.2:=List.getElem_mem hjc
   generalize (cls p.2.2)[j]=c at htc htake hcm
   obtain ⟨m,bb⟩:=c
   obtain ⟨t,md,v,b0,m0,e1,e2,e3,e4,e5⟩:=hst.call hO.ok hcm
   have hrlc:RlC T t m v:=⟨m0,⟨md,e2,e3,e4⟩,e5⟩
   have ebb:bb=((bb.toNat:Nat):Int):=by lia
   have em:m=((m.toNat:Nat):Int):=by lia
   obtain ⟨e,he⟩ : ∃ e,es5[bb.toNat]?=some e:=⟨_,List.getElem?_eq_getElem (by rw [hW5.n.len];exact (List.getElem?_eq_some_iff.mp e1).1)⟩
   have hate:atI (es5.map fun e=>V.ref e.1) bb=some (.ref e.1):=by rw [ebb];exact Qv (by rw [List.getElem?_map,he];rfl)
   have hed:=(hW5.n.at' _ _ he).1
   refine ⟨_,_,rfl,htc,rfl,_,_,rfl,_,_,rfl,rfl,?_⟩
   by_cases hin:m ∈ e.2.map (·.1)
   ·obtain ⟨x,hx⟩:=MV hin
    refine ⟨_,rfl,_,rfl,_,rfl,acc,_,_,_,rfl,rfl,SqL.of hW5.n.l,hate,e.1,_,rfl,.inl ⟨_,.inl m,.inl hed,rfl,hx.symm⟩,_,rfl,ZE ?_⟩
    refine ⟨_,_,es5,rfl,⟨hW5.x,hW5.d,hW5.n.imp fun m' b' h=>?_⟩,hlc5,htx5⟩
    rcases h with h | h
    ·exact hW5.n.dn _ _ (.inl h)
    ·rw [htake] at h
     rcases List.mem_append.mp h with h | h
     ·exact hW5.n.dn _ _ (.inr h)
     ·have z:(m',b')=(m,bb):=by simpa using h
      cases z
      exact ⟨e,he,hin⟩
   ·refine ⟨_,rfl,_,rfl,_,rfl,acc,_,_,_,rfl,rfl,SqL.of hW5.n.l,hate,e.1,_,rfl,.inl ⟨_,.inl m,.inl hed,rfl,(Wr hin).symm⟩,_,rfl,QZ ?_⟩
    obtain ⟨mt,hmt,emd,hml⟩:=hO.get e2
    have gm5:Mo K H H5:=Mo.dk hru.d hW5.x
    have hT5:=gm5.turn hT
    obtain ⟨tv,htv,htr⟩:=h3.get e1
    have hu5:atI us bb=some tv:=by rw [ebb];exact Qv htv
    have htr5:=htr.mono gm5.t
    cases htr5 with
    | @mk ta tb tus tts tname tmark k1 k2 k3 k4 =>
    refine ⟨_,rfl,_,rfl,_,rfl,a,_,2,_,rfl,rfl,gm5.t _ _ h1,rfl,_,rfl,b,_,_,_,rfl,rfl,gm5.t _ _ h2,hu5,ta,_,0,_,rfl,rfl,k1,rfl,?_⟩
    refine ⟨tu,wd,lm,sv,m.toNat,tname,T.ks,mo,mt,by rw [← em];rfl,hT5.tu,hT5.w,hO.wo,hT5.m,hmt,hml,fun v' H6 g6 hv'=>?_⟩
    have hv6:TmV K H6 v' v:=by
     rw [emd] at hv'
     have e3':Zv T.ks md tname=some v:=e3
     rw [e3'] at hv'
     exact hv'
    have hW6:=hW5.same g6
    have hed6:=g6 _ _ hed
    have hfw:e.2.length≤10:=by
     have h1:=few (n:=mo.length) (fs:=e.2.map (·.1)) (hW5.n.at' _ _ he).2 fun m' hm'=>by
      obtain ⟨p',hp',rfl⟩:=List.mem_map.mp hm'
      obtain ⟨_,⟨mm,⟨md',z,_⟩,_⟩⟩:=hW5.n.ok _ _ _ he e1 p' hp'
      have z1:=(List.getElem?_eq_some_iff.mp z).1
      have z2:mo.length=T.ms.length:=by rw [← hO.me];simp [mds]
      lia
     rw [List.length_map] at h1
     lia
    refine ⟨_,rfl,_,rfl,acc,_,_,_,rfl,rfl,SqL.of hW6.n.l,hate,_,rfl,e.1,_,rfl,.inl ⟨_,.inl m,hed6,rfl,by rw [Yh,QO];lia,rfl⟩,?_⟩
    rw [NG v hin]
    have hNp:=hW6.n.put he e1 hin hv6 hrlc
    have gx:SameX e.1 H6 (upd H6 e.1 (.dK (kvI (e.2 ++ [(m,v',v)])))):=SameX.upd
    have gm6:Mo K H5 (upd H6 e.1 (.dK (kvI (e.2 ++ [(m,v',v)])))):=(Mo.of g6).trans (Mo.dk hed6 gx)
    have hne:e.1≠d:=hdn _ e es5 hW5.n.fr he
    have hfe:=hW5.n.fr _ _ he
    refine ⟨_,_,_,rfl,⟨fun x u n z=>?_,?_,hNp.imp fun m' b' h=>?_⟩,gm6.l _ _ hlc5,htx5.mono gm6.t⟩
    ·rw [Qg (Qi z hfe)];exact hW6.x _ _ n z
    ·rw [Qg (Ne.symm hne)];exact hW6.d
    ·rcases h with h | h
     ·exact hNp.dn _ _ (.inl (.inl h))
     ·rw [htake] at h
      rcases List.mem_append.mp h with h | h
      ·exact hNp.dn _ _ (.inl (.inr h))
      ·have z:(m',b')=(m,bb):=by simpa using h
       cases z
       exact hNp.dn _ _ (.inr ⟨rfl,rfl⟩)
  ·rintro σ H5 ⟨c5,c6,es5,rfl,hW5,_,_⟩
   refine ⟨_,_,_,es5,rfl,⟨hW5.x,hW5.d,hW5.n.imp fun m b h=>hW5.n.dn m b ?_⟩⟩
   obtain ⟨p',hp',hc'⟩:=h
   rw [List.take_add_one,hp] at hp'
   rcases List.mem_append.mp hp' with hp' | hp'
   ·exact .inl ⟨p',hp',hc'⟩
   ·have z:p'=p:=by simpa using hp'
    rw [z] at hc'
    refine .inr ?_
    rw [List.take_of_length_le (29:)]
    exact hc'
 ·rintro σ H3 ⟨c4,c5,c6,es,rfl,hW⟩
  rw [Yh,List.take_of_length_le (7:)] at hW
  refine ⟨⟨o,hW.d⟩,_,rfl,q acc _ es (fun x u e=>?_) ?_⟩
  ·by_cases z:x=d
   ·subst z
    rw [hru.d] at e
    rw [← e]
    exact Qb
   ·rw [Qg z];exact hW.x _ _ z e
  ·have gm:Mo K H3 (upd H3 d (.dK (kvI ps))):=Mo.fz hW.d SameX.upd
   refine ⟨?_,hW.n.fl,hW.n.len,hW.n.inj,hW.n.fr,fun i e he=>?_,fun i e c he hc p hp=>⟨(hW.n.ok i e c he hc p hp).1.mono gm.t,(hW.n.ok i e c he hc p hp).2⟩,hW.n.dn⟩
   ·rw [Qg (QS hW.n.l hW.d (32:))];exact hW.n.l
   ·rw [Qg (hdn i e _ hW.n.fr he)];exact hW.n.at' i e he
end
end K25
namespace K25
open PySem L2 TM TT K9 K11
theorem sxl {K:PySem.W.Frag} {H H':Hp} {lb:Addr} {ys:List V} (hl:H lb=some (.lst ys)) (g:SameX lb H H'):∀ a xs,SqT K H a xs→SqT K H' a xs:=by
 intro a xs h
 rcases h with (h | ⟨o,h⟩) | h
 ·exact .inl (.inl (g _ _ (QS h hl (43:)) h))
 ·exact .inl (.inr ⟨o,g _ _ (QS h hl (43:)) h⟩)
 ·exact .inr h
theorem Ned.sx {K:PySem.W.Frag} {H0 H H':Hp} {T:Tu} {r:Tree Str} {l lb:Addr} {ys:List V} {es:List (Addr × RuL)} {dn:Int→Int→Prop} (hl:H lb=some (.lst ys)) (ne:l≠lb) (g:SameX lb H H') (h:Ned K H0 H T r l es dn):Ned K H0 H' T r l es dn :=
 ⟨g _ _ ne h.l,h.fl,h.len,h.inj,h.fr,fun i e he=>⟨g _ _ (QS (h.at' i e he).1 hl (43:)) (h.at' i e he).1,(h.at' i e he).2⟩,fun i e c he hc p hp=>⟨(h.ok i e c he hc p hp).1.mono (sxl hl g),(h.ok i e c he hc p hp).2⟩,h.dn⟩
theorem Rd.frz {H:Hp} {d x:Addr} {o:Obj} {kvs k:List (Key × V)} (hd:H d=some (.dK kvs)) (h:Rd H x (.dK k)):Rd (upd H d (.frz o (.dK kvs))) x (.dK k):=by
 by_cases e:x=d
 ·subst e
  rcases h with h | ⟨ob,h⟩
  ·rw [hd] at h
   cases h
   exact .inr ⟨o,Qb⟩
  ·rw [hd] at h;cases h
 ·rcases h with h | ⟨ob,h⟩
  ·exact .inl (by rw [Qg e];exact h)
  ·exact .inr ⟨ob,by rw [Qg e];exact h⟩
def kvO:List Int→List V→List (Key × V)
 | m :: ms,v :: vs=>(Sum.inl m,v) :: kvO ms vs
 | _,_=>[]
theorem XE {α:Type} {R:Hp→V→α→Prop} {H:Hp} {g:Int × V × Tm→α} {m:Int}:∀ {ps:RuL} {os:List V},m ∈ ps.map (·.1)→RAll R H os (ps.map g)→∃ p ∈ ps,p.1=m∧∃ v,Zp (kvO (ps.map (·.1)) os) (Sum.inl m:Key)=some v∧R H v (g p)
 | [],_,h,_=>by simp at h
 | p :: r,o :: os,h,.cons h1 h2=>by
  by_cases e:p.1=m
  ·exact ⟨p,List.mem_cons_self,e,o,ZM (p:=((Sum.inl p.1:Key),o)) (by show (Sum.inl p.1:Key)=_;rw [e]),h1⟩
  ·simp only [List.map_cons,List.mem_cons] at h
   rcases h with h | h
   ·exact absurd h.symm e
   ·obtain ⟨q,hq,eq,v,hv,hR⟩:=XE h h2
    exact ⟨q,List.mem_cons_of_mem _ hq,eq,v,by show Zp ((Sum.inl p.1,o) :: kvO (r.map (·.1)) os) _=some v;rw [Zr (fun z=>e (by cases z;rfl)),hv],hR⟩
theorem Nb {ps:RuL}:∀ (ts:List (Addr × Key × V)),ts.map (fun t=>t.2.1)=ps.map (fun p=>(Sum.inl p.1:Key))→ts.map (fun t=>(t.2.1,t.2.2))=kvO (ps.map (·.1)) (ts.map fun t=>t.2.2):=by
 induction ps with
 | nil=>intro ts h;cases ts with
  | nil=>rfl
  | cons t r=>simp at h
 | cons p r ih=>intro ts h;cases ts with
  | nil=>simp at h
  | cons t s =>
   simp only [List.map_cons,List.cons.injEq] at h
   simp only [List.map_cons,kvO]
   rw [ih s h.2,h.1]
def TBd (T:Tu):Prop:=∀ md ∈ T.ms,∀ u ∈ md.2,lv u≤8∧sz u≤100
abbrev cvT {α:Type} (op:Lab→Int→List α→α) (dd:α) (T:Tu) (r:Tree Str):Int→Int→α:=fun m b=>(r.bs[b.toNat]?).elim dd fun c=>Xy op dd T.ks T.ms c m
structure Rck {α:Type} (R:Hp→V→α→Prop) (op:Lab→Int→List α→α) (dd:α) (T:Tu) (r:Tree Str) (es:List (Addr × RuL)) (H:Hp) (rs:List Addr):Prop where
 at':∀ (j:Nat) e c D,es[j]?=some e→r.bs[j]?=some c→rs[j]?=some D→∃ os,H D=some (.dK (kvO (e.2.map (·.1)) os))∧RAll R H os (e.2.map fun p=>Zu op dd T p.2.2 c)
theorem Rck.bel {α:Type} {K:PySem.W.Frag} {R:Hp→V→α→Prop} {op:Lab→Int→List α→α} {dd:α} {T:Tu} {r:Tree Str} {es:List (Addr × RuL)} {H0 H:Hp} {rs:List Addr} {l:Addr} {u:Tm} {dn:Int→Int→Prop} (h:Rck R op dd T r es H rs) (n:Ned K H0 H T r l es dn) (hl:rs.length=r.bs.length) (hdn:∀ c ∈ cls u,0≤c.2∧dn c.1 c.2):BelAt R H rs (cvT op dd T r) (cls u):=fun c hc=>by
 obtain ⟨h0,hd⟩:=hdn c hc
 obtain ⟨e,he,hm⟩:=n.dn _ _ hd
 have hb:c.2.toNat < r.bs.length:=by rw [← n.len];exact (List.getElem?_eq_some_iff.mp he).1
 have hc':r.bs[c.2.toNat]?=some r.bs[c.2.toNat]:=List.getElem?_eq_getElem hb
 generalize r.bs[c.2.toNat]=t at hc'
 have hD:rs[c.2.toNat]?=some rs[c.2.toNat]:=List.getElem?_eq_getElem (10:)
 generalize rs[c.2.toNat]'(10:)=D at hD
 obtain ⟨os,e1,e2⟩:=h.at' _ _ _ _ he hc' hD
 obtain ⟨p,hp,ep,v,e3,e4⟩:=XE hm e2
 obtain ⟨_,⟨_,⟨md,z1,z2,_⟩,_⟩⟩:=n.ok _ _ _ he hc' p hp
 refine ⟨h0,D,_,v,hD,.inl e1,e3,?_⟩
 show R H v (cvT op dd T r c.1 c.2)
 unfold cvT
 rw [hc']
 show R H v (Xy op dd T.ks T.ms t c.1)
 rw [← ep,Gh z1 z2]
 exact e4
def ZZ {α:Type} (K:PySem.W.Frag) (e:Expr) (R:Hp→V→α→Prop) (op:Lab→Int→List α→α) (dd:α) (n:Nat):Sp:=fun vs H Q _=>∃ (tu wd lm:Addr) (sv:V) (mo:List MdT) (T:Tu) (d:Addr) (ps:RuL) (rv:V) (r:Tree Str) (f:Addr),vs=[.ref tu,.ref d,rv,.ref f]∧TurnAt K H tu wd lm sv mo T∧TurnOk mo T∧TBd T∧mo.length≤10∧RuAt K H d ps∧(ps.map (·.1)).Nodup∧ps.length≤100∧TrV K H rv r∧lv r≤n∧(∀ p ∈ ps,St T (p.2.2,r)∧lv p.2.2≤8∧sz p.2.2≤100)∧LamAt H f e ∧
 ∀ (d':Addr) (H':Hp) (os:List V),Same H H'→H' d'=some (.dK (kvO (ps.map (·.1)) os))→RAll R H' os (ps.map fun p=>Zu op dd T p.2.2 r)→Q (.ref d') H'
def U8 {α:Type} (K:PySem.W.Frag) (e:Expr) (R:Hp→V→α→Prop) (op:Lab→Int→List α→α) (dd:α):Sp:=fun vs H Q _=>∃ (tu wd lm:Addr) (sv:V) (mo:List MdT) (T:Tu) (v:V) (u:Tm) (rv:V) (t:Tree Str) (f:Addr),vs=[.ref tu,v,rv,.ref f]∧TurnAt K H tu wd lm sv mo T∧TurnOk mo T∧TBd T∧mo.length≤10∧TmV K H v u∧lv u≤8∧sz u≤100∧TrV K H rv t∧lv t≤40∧St T (u,upT t)∧LamAt H f e ∧
 ∀ (v':V) (H':Hp),Same H H'→R H' v' (Zu op dd T u (upT t))→Q v' H'
section
variable {P:Program} {w:World} {K:PySem.W.Frag} {mg:Str→Option Value} {base:Heap} {f:Addr} {fd:FuncData}
theorem XM:FnScope ["turning", "rules", "tree", "make", "below", "branch", "called"] ["turning", "rules", "tree", "make"] (defScope UY):=(1:)
theorem N2 {α:Type} {e:Expr} {R:Hp→V→α→Prop} {op:Lab→Int→List α→α} {dd:α} (hR:Rep K R) {n:Nat} (F:Fun K "reckoned" "reckoned" UY f fd) (G:Gm mg) (RB:Fn P w K mg base 10 "called_below" ["turning", "rules", "tree"] (Om K)) (RF:Fn P w K mg base 11 "filled" ["term", "mark", "below", "make"] (Zj K e R op 8)) (RR:Fn P w K mg base (n + 12) "reckoned" ["turning", "rules", "tree", "make"] (ZZ K e R op dd n)) :
 FnOk P w K mg base CX0 (n + 13) f fd ["turning", "rules", "tree", "make"] (ZZ K e R op dd (n + 1)):=by
 refine F.ok XM (8:) (4:)
 ·obtain ⟨tu,wd,lm,sv,mo,T,d,ps,rv,r,fm,rfl,_⟩:=h
  rfl
 obtain ⟨tu,wd,lm,sv,mo,T,d,ps,rv,r,fm,rfl,hT,hO,hTB,hm10,hru,hnd,hpl,htr,hlv,hps,hL,q⟩:=h
 refine ⟨_,(Qe (Qn (i:=4) XM.nd rfl (Or.inr rfl) (QF Qc))
  (Qe (QU PassesOwn.never rfl (N8 rfl G.zip (Qa (Qj Qk (pv 2) Qd (2:)) (Qa (Qq RB hr (Qa (pv 0) (Qa (pv 1) (Qa (pv 2) Qc))) (10:)) Qc))) (UG rfl (Q4 (QC (i:=5) XM.nd rfl (12:)) (Q4 (QC (i:=6) XM.nd rfl (12:)) YL))) (Qh
   (QI (Zk PySem.F.plainAttrs_list PySem.F.slot_list_append PySem.F.type_list_append QY (pv 4) (Qa (Qq RR hr (Qa (pv 0) (Qa (pv 6) (Qa (pv 5) (Qa (pv 3) Qc)))) (7:)) Qc)))))
  (Qh (VB (Qp (Qx (WV rfl) rfl G.dct PyProof.Rows.boot_dict (Qa (QP (CompG.many (xs:=["mode", "rule"]) (caps:=["below", "make", "tree"]) (cap:=[4,3,2]) (cs:=[_,_,_]) rfl rfl (0:) (0:) (0:) (0:) (0:) (0:) rfl rfl rfl) rfl (GQ (W1 PySem.F.plainAttrs_dict PySem.F.slot_dict_items PySem.F.type_dict_items M4 (pv 1))) (Wp (CompG.many (xs:=["mode", "rule"]) (caps:=["below", "make", "tree"]) (cap:=[4,3,2]) (cs:=[_,_,_]) rfl rfl (0:) (0:) (0:) (0:) (0:) (0:) rfl rfl rfl) rfl) (fun _ _ _ _=>Q2) (fun _ _ _ _=>(Qz (Qa (pv 0) (Qa (Qq RF hr (Qa (pv 1) (Qa (Qj (r:=GI K) Qk (pv 4) Qd (2:)) (Qa (pv 2) (Qa (pv 3) Qc)))) (10:)) Qc))))) Qc))))))),?_⟩
 cases htr with
 | @mk a b us ts name mark h1 h2 h3 h4 =>
 have hul:=h3.length
 rw [Zg] at hlv
 refine ⟨(15:),fun lb hlb=>?_⟩
 have g0:=Qf hlb (.lst [])
 have hlb0:upd H lb (.lst []) lb=some (.lst []):=Qb
 generalize upd H lb (.lst [])=H0 at g0 hlb0
 have hru0:RuAt K H0 d ps:=⟨g0 _ _ hru.d,fun p hp=>(hru.t p hp).mono fun _ _=>g0.seqT⟩
 refine ⟨_,rfl,a,_,2,_,rfl,rfl,g0.seqT h1,rfl,_,rfl,_,rfl,_,rfl,?_⟩
 refine ⟨tu,wd,lm,sv,mo,T,d,ps,.ref a,.node name mark ts,rfl,hT.same g0,hO,hm10,hru0,.mk (g0.seqT h1) (g0.seqT h2) (h3.mono fun _ _=>g0.seqT) h4,hps,fun l H1 es g1 hN=>?_⟩
 have hll:l≠lb:=fun z=>by
  have:=hN.fl
  rw [z,hlb0] at this;cases this
 have g01:=g0.trans g1
 have hel:us.length=(es.map fun e=>V.ref e.1).length:=by rw [List.length_map,hN.len];exact hul
 refine ⟨b,l,us,_,rfl,g01.seqT h2,SqL.of hN.l,?_⟩
 refine Lc (K:=K) hel (fun i σ H'=>∃ (c5 c6:Option V) (rs:List Addr),σ=[some (.ref tu),some (.ref d),some (.ref a),some (.ref fm),some (.ref lb),c5,c6]∧Same H H'∧H' lb=some (.lst (rs.map V.ref))∧rs.length=i∧Ned K H0 H' T (53:) l es (fun m b=>∃ p ∈ ps,(m,b) ∈ cls p.2.2)∧Rck R op dd T (53:) es H' rs)
  ⟨none,none,[],rfl,g01,g1 _ _ hlb0,rfl,hN,⟨fun j e c D _ _ h=>by simp at h⟩⟩ ?_ ?_ ?_
 ·rintro i σ H' _ ⟨_,_,_,_,g,_,_,hN',_⟩
  exact ⟨g.seqT h2,SqL.of hN'.l⟩
 ·rintro i u v p σ H2 hu hv hp ⟨c5,c6,rs,rfl,g2,hlb2,hrl,hN2,hK2⟩
  have k:=Qf hp (.tup [u,v])
  have hpt:upd H2 p (.tup [u,v]) p=some (.tup [u,v]):=Qb
  have hlb3:=k _ _ hlb2
  have hN3:=hN2.same k
  have g3:=g2.trans k
  have hK3:Rck R op dd T (53:) es (upd H2 p (.tup [u,v])) rs:=⟨fun j e c D he hc hD=>by
   obtain ⟨os,e1,e2⟩:=hK2.at' j e c D he hc hD
   exact ⟨os,k _ _ e1,e2.imp fun h=>hR _ _ _ _ (fun _ _=>k.seqT) h⟩⟩
  generalize upd H2 p (.tup [u,v])=H3 at hpt hlb3 hN3 g3 hK3
  have hil:i < ts.length:=by
   have:=(List.getElem?_eq_some_iff.mp hu).1
   lia
  have hci:ts[i]?=some ts[i]:=List.getElem?_eq_getElem hil
  generalize ts[i]=c at hci
  obtain ⟨u',hu',hc3⟩:=h3.get hci
  obtain rfl:u'=u:=Option.some.inj (hu'.symm.trans hu)
  obtain ⟨e',he,rfl⟩ : ∃ e',es[i]?=some e'∧V.ref e'.1=v:=by
   rw [List.getElem?_map] at hv
   cases h:es[i]? with
   | none=>rw [h] at hv;cases hv
   | some x=>rw [h] at hv;exact ⟨x,rfl,Option.some.inj hv⟩
  have hcb:(Tree.node name mark ts:Tree Str).bs[i]?=some c:=hci
  have hok:=hN3.ok i e' c he hcb
  have hat:=hN3.at' i e' he
  have hlc:lv c≤n:=by
   have:=Yv (List.mem_of_getElem? hcb)
   lia
  have hmem:∀ p ∈ e'.2,0≤p.1∧p.1 < ((mo.length:Nat):Int):=fun p hp=>by
   obtain ⟨_,⟨mm,⟨md',z,_⟩,_⟩⟩:=hok p hp
   have z1:=(List.getElem?_eq_some_iff.mp z).1
   have z2:mo.length=T.ms.length:=by rw [← hO.me];simp [mds]
   lia
  have hfw:e'.2.length≤10:=by
   have h1:=few (n:=mo.length) (fs:=e'.2.map (·.1)) hat.2 fun m' hm'=>by
    obtain ⟨p',hp',rfl⟩:=List.mem_map.mp hm'
    exact hmem p' hp'
   rw [List.length_map] at h1
   lia
  refine ⟨p,_,rfl,SqT.of hpt,rfl,_,_,rfl,_,_,rfl,rfl,?_⟩
  refine ⟨_,rfl,.inl ⟨rfl,_,SqL.of hlb3⟩,_,rfl,_,rfl,_,rfl,_,rfl,?_⟩
  refine ⟨tu,wd,lm,sv,mo,T,e'.1,e'.2,u',c,fm,rfl,hT.same g3,hO,hTB,hm10,⟨hat.1,fun p hp=>(hok p hp).1⟩,hat.2,by lia,hc3.mono fun _ _=>g3.seqT,hlc,fun p hp=>?_,hL.same g3,fun D H4 os g4 hD hos=>?_⟩
  ·obtain ⟨_,⟨_,⟨md,z1,_,z3⟩,z4⟩⟩:=hok p hp
   obtain ⟨y1,y2⟩:=hTB md (List.mem_of_getElem? z1) _ z3
   exact ⟨z4,y1,y2⟩
  have hlb4:=g4 _ _ hlb3
  refine ⟨lb,_,_,rfl,rfl,hlb4,by rw [List.length_map,QO];lia,?_⟩
  have gx:SameX lb H4 (upd H4 lb (.lst (rs.map V.ref ++ [.ref D]))):=SameX.upd
  refine ⟨_,_,rs ++ [D],rfl,fun x u e=>?_,by rw [Qb];simp,by simp [hrl],(hN3.same g4).sx hlb4 hll gx,⟨fun j e c' D' he' hc' hD'=>?_⟩⟩
  ·rw [Qg (Qi e hlb)];exact g4 _ _ (g3 _ _ e)
  ·rw [List.getElem?_append] at hD'
   split at hD'
   ·obtain ⟨os',e1,e2⟩:=hK3.at' j e c' D' he' hc' hD'
    have e1':=g4 _ _ e1
    exact ⟨os',gx _ _ (QS e1' hlb4 (43:)) e1',e2.imp fun h=>hR _ _ _ _ (fun _ _ h=>sxl hlb4 gx _ _ (g4.seqT h)) h⟩
   ·have hjl:=(List.getElem?_eq_some_iff.mp hD').1
    simp only [List.length_singleton] at hjl
    have ej:j=i:=by lia
    subst ej
    obtain rfl:e=e':=Option.some.inj (he'.symm.trans he)
    obtain rfl:c'=c:=Option.some.inj (hc'.symm.trans hcb)
    have eD:D'=D:=by
     have:=List.mem_of_getElem? hD'
     simpa using this
    subst eD
    exact ⟨os,gx _ _ (QS hD hlb4 (43:)) hD,hos.imp fun h=>hR _ _ _ _ (sxl hlb4 gx) h⟩
 ·rintro σ H2 ⟨c5,c6,rs,rfl,g2,hlb2,hrl,hN2,hK2⟩
  have hd2:=g2 _ _ hru.d
  have hrl':rs.length=(Tree.node name mark ts:Tree Str).bs.length:=by rw [hrl];exact hul
  refine ⟨d,kvI ps,hd2,_,rfl,.inr (.inr (.inl ⟨rfl,.inl ⟨_,hd2⟩⟩)),d,kvI ps,rfl,rfl,hd2,fun pv hpv=>⟨pv,d,kvI ps,rfl,Qb,Qf hpv _ _ _ hd2,fun o=>fun acc hacc=>?_⟩⟩
  have k:=Qf hpv (ItmO pv d)
  have hd3:=k _ _ hd2
  have g3:=g2.trans k
  have hlb3:=k _ _ hlb2
  have hN3:=hN2.same k
  have hK3:Rck R op dd T (53:) es (upd H2 pv (ItmO pv d)) rs:=⟨fun j e c D he hc hD=>by
   obtain ⟨os,e1,e2⟩:=hK2.at' j e c D he hc hD
   exact ⟨os,k _ _ e1,e2.imp fun h=>hR _ _ _ _ (fun _ _=>k.seqT) h⟩⟩
  generalize upd H2 pv (ItmO pv d)=H3 at hd3 g3 hlb3 hN3 hK3 hacc ⊢
  have gx:SameX d H3 (upd H3 d (.frz o (.dK (kvI ps)))):=SameX.upd
  have gm:Mo K H3 (upd H3 d (.frz o (.dK (kvI ps)))):=Mo.dk hd3 gx
  have hd4:upd H3 d (.frz o (.dK (kvI ps))) d=some (.frz o (.dK (kvI ps))):=Qb
  have hbel:∀ p ∈ ps,BelAt R (upd H3 d (.frz o (.dK (kvI ps)))) rs (cvT op dd T (53:)) (cls p.2.2):=fun p hp c hc=>by
   obtain ⟨z0,D,kvs,v,z1,z2,z3,z4⟩:=hK3.bel hN3 hrl' (u:=p.2.2) (fun c hc=>⟨by
    obtain ⟨_,_,_,b0,_⟩:=(hps p hp).1.call hO.ok hc
    exact b0,p,hp,hc⟩) c hc
   exact ⟨z0,D,kvs,v,z1,Rd.frz hd3 z2,z3,hR _ _ _ _ gm.t z4⟩
  have hL4:LamAt (upd H3 d (.frz o (.dK (kvI ps)))) fm e:=by
   obtain ⟨qq,pm,cc,ctv,y1,y2⟩:=(hL.same g3).ex
   exact ⟨qq,pm,cc,ctv,gx _ _ (QS y1 hd3 (43:)) y1,gx _ _ (QS y2 hd3 (43:)) y2⟩
  have h14:=gm.t _ _ (g3.seqT h1)
  have hlb4:=gm.l _ _ (SqL.of hlb3)
  have ht4:∀ p ∈ ps,TmV K (upd H3 d (.frz o (.dK (kvI ps)))) p.2.1 p.2.2:=fun p hp=>(hru.t p hp).mono fun _ _ h=>gm.t _ _ (g3.seqT h)
  have gx0:SameX d H (upd H3 d (.frz o (.dK (kvI ps)))):=(SameX.of g3).trans gx
  generalize upd H3 d (.frz o (.dK (kvI ps)))=H4 at hd4 hbel hL4 h14 hlb4 ht4 gx0 hacc ⊢
  refine GK (K:=K) (d:=d) (o:=o) (kvs:=kvI ps) (cs:=[some (.ref lb),some (.ref fm),some (.ref a)]) (tt:=fun _ H Q=>Q true H) (te:=MW (Q0 (Zi 0) (Q0 (Wj (Zj K e R op 8) [] E0 (Q0 (Zi 1) (Q0 (tOp (GI K) (Zi 4) (tC (.int 1))) (Q0 (Zi 2) (Q0 (Zi 3) Jf))))) Jf)))
   (fun i ys H'=>∃ xs:List (Addr × Key × V),ys=xs.map (fun x=>V.ref x.1)∧H' acc=some (.lst ys)∧Same H4 H'∧xs.map (fun x=>x.2.1)=(ps.take i).map (fun p=>(Sum.inl p.1:Key))∧xs.length=i∧(∀ x ∈ xs,SqT K H' x.1 [kV x.2.1,x.2.2])∧RAll R H' (xs.map fun x=>x.2.2) ((ps.take i).map fun p=>Zu op dd T p.2.2 (53:)))
   ⟨[],rfl,Qb,Qf hacc _,rfl,rfl,fun x hx=>(nomatch hx),.nil⟩ ?_ ?_ ?_
  ·rintro i ys H' _ ⟨_,_,_,g,_⟩
   exact g _ _ hd4
  ·rintro i k' v p ys H5 hi hkv hp ⟨xs,rfl,hya,g5,hxk,hxl,hxa,hxr⟩
   have k5:=Qf hp (.tup [kV k',v])
   have hya6:=k5 _ _ hya
   have g6:=g5.trans k5
   have hxa6:∀ x ∈ xs,SqT K (upd H5 p (.tup [kV k',v])) x.1 [kV x.2.1,x.2.2]:=fun x hx=>k5.seqT (hxa x hx)
   have hxr6:=hxr.imp (H':=upd H5 p (.tup [kV k',v])) fun h=>hR _ _ _ _ (fun _ _=>k5.seqT) h
   generalize upd H5 p (.tup [kV k',v])=H6 at hya6 g6 hxa6 hxr6
   rw [Yh] at hi
   have hpi:ps[i]?=some ps[i]:=List.getElem?_eq_getElem hi
   generalize ps[i]=pp at hpi
   have hkv':(kvI ps)[i]?=some (Sum.inl pp.1,pp.2.1):=by rw [kvI,List.getElem?_map,hpi];rfl
   rw [hkv'] at hkv
   cases hkv
   have hpm:=List.mem_of_getElem? hpi
   refine QZ ⟨_,rfl,_,rfl,_,rfl,a,_,1,_,rfl,rfl,g6.seqT h14,rfl,_,rfl,_,rfl,?_⟩
   refine ⟨pp.2.1,pp.2.2,mark,lb,fm,rs,cvT op dd T (53:),rfl,(ht4 pp hpm).mono fun _ _=>g6.seqT,(hps pp hpm).2.1,(hps pp hpm).2.2,g6.seq hlb4,(hbel pp hpm).same hR g6,hL4.same g6,fun v' H7 g7 hv'=>?_⟩
   refine ⟨(44:),fun t ht=>?_⟩
   have k8:=Qf ht (.tup [.int pp.1,v'])
   have g48:=g6.trans (g7.trans k8)
   have hya8:=k8 _ _ (g7 _ _ hya6)
   have ht8:upd H7 t (.tup [.int pp.1,v']) t=some (.tup [.int pp.1,v']):=Qb
   have hv8:=hR _ _ _ _ (fun _ _=>k8.seqT) hv'
   have hxa8:∀ x ∈ xs,SqT K (upd H7 t (.tup [.int pp.1,v'])) x.1 [kV x.2.1,x.2.2]:=fun x hx=>k8.seqT (g7.seqT (hxa6 x hx))
   have hxr8:=hxr6.imp (H':=upd H7 t (.tup [.int pp.1,v'])) fun h=>hR _ _ _ _ (fun _ _ h=>k8.seqT (g7.seqT h)) h
   refine QB (ys:=xs.map fun x:Addr × Key × V=>V.ref x.1) (by rw [Yh];exact hi) hya8 (29:) ⟨xs ++ [(t,Sum.inl pp.1,v')],by simp,Qb,fun x u e=>?_,?_,by simp [hxl],fun x hx=>?_,?_⟩
   ·rw [Qg (Qi e hacc)];exact g48 _ _ e
   ·rw [List.map_append,hxk,List.take_add_one,hpi];simp
   ·rcases List.mem_append.mp hx with hx | hx
    ·exact (hxa8 x hx).put hya8
    ·have ex:x=(t,Sum.inl pp.1,v'):=by simpa using hx
     subst ex
     exact (SqT.of ht8).put hya8
   ·rw [List.take_add_one,hpi]
    show RAll R _ ((xs ++ [(t,(Sum.inl pp.1:Key),v')]).map fun x=>x.2.2) ((ps.take i ++ [pp]).map fun p=>Zu op dd T p.2.2 (53:))
    rw [List.map_append,List.map_append]
    exact RAll.append (hxr8.imp fun h=>hR _ _ _ _ (fun _ _ h=>h.put hya8) h) (.cons (hR _ _ _ _ (fun _ _ h=>h.put hya8) hv8) .nil)
  ·rintro ys H5 ⟨xs,rfl,hya,g5,hxk,hxl,hxa,hxr⟩
   rw [Yh] at hxl
   rw [Yh,List.take_of_length_le (7:)] at hxk hxr
   refine ⟨acc,xs,rfl,SqL.of hya,hxa,?_,by lia,fun d' hd'=>?_⟩
   ·have ee:ps.map (fun p=>(Sum.inl p.1:Key))=(ps.map (·.1)).map (fun m=>(Sum.inl m:Key)):=by rw [List.map_map];rfl
    rw [hxk,ee]
    exact List.Pairwise.map _ (fun a b hab z=>hab (by cases z;rfl)) hnd
   have k6:=Qf hd' (.dK (xs.map fun t=>(t.2.1,t.2.2)))
   have hd6:=k6 _ _ (g5 _ _ hd4)
   refine ⟨⟨o,hd6⟩,q d' _ (xs.map fun x=>x.2.2) (fun x u e=>?_) ?_ ?_⟩
   ·by_cases z:x=d
    ·subst z
     rw [hru.d] at e
     rw [← e]
     exact Qb
    ·rw [Qg z];exact k6 _ _ (g5 _ _ (gx0 _ _ z e))
   ·have hne:d'≠d:=fun z=>by rw [z,g5 _ _ hd4] at hd';cases hd'
    rw [Qg hne,Qb,Nb (ps:=ps) xs hxk]
   ·have gm6:Mo K (upd H5 d' (.dK (xs.map fun t=>(t.2.1,t.2.2)))) (upd (upd H5 d' (.dK (xs.map fun t=>(t.2.1,t.2.2)))) d (.dK (kvI ps))):=Mo.fz hd6 SameX.upd
    exact hxr.imp fun h=>hR _ _ _ _ (fun _ _ h=>gm6.t _ _ (k6.seqT h)) h
end
end K25
namespace K25
open PySem L2 TM TT K9 K11
section
variable {P:Program} {w:World} {K:PySem.W.Frag} {mg:Str→Option Value} {base:Heap} {f:Addr} {fd:FuncData}
theorem GB {α:Type} {e:Expr} {R:Hp→V→α→Prop} {op:Lab→Int→List α→α} {dd:α} {k:Nat}:FnOk P w K mg base CX0 k f fd ["turning", "rules", "tree", "make"] (ZZ K e R op dd 0):=by
 have no:∀ vs H Q E,¬ ZZ K e R op dd 0 vs H Q E:=fun vs H Q E h=>by
  obtain ⟨tu,wd,lm,sv,mo,T,d,ps,rv,r,fm,_,_,_,_,_,_,_,_,_,h0,_⟩:=h
  rw [Zg] at h0;lia
 exact (28:)
theorem YH {α:Type} {e:Expr} {R:Hp→V→α→Prop} {op:Lab→Int→List α→α} {dd:α} (hR:Rep K R) (F:Fun K "reckoned" "reckoned" UY f fd) (G:Gm mg) (RB:Fn P w K mg base 10 "called_below" ["turning", "rules", "tree"] (Om K)) (RF:Fn P w K mg base 11 "filled" ["term", "mark", "below", "make"] (Zj K e R op 8)) (hb:Binds K fd ["turning", "rules", "tree", "make"] []) (hm:mg "reckoned" = some (.ref f)):∀ n:Nat,FnOk P w K mg base CX0 (n + 12) f fd ["turning", "rules", "tree", "make"] (ZZ K e R op dd n)
 | 0=>GB
 | n + 1=>N2 hR F G RB RF ⟨f,fd,YH hR F G RB RF hb hm n,hb,F.kp,hm⟩
theorem Ra:FnScope ["turning", "term", "tree", "make"] ["turning", "term", "tree", "make"] (defScope OP):=(1:)
theorem W7 {α:Type} {e:Expr} {R:Hp→V→α→Prop} {op:Lab→Int→List α→α} {dd:α} (F:Fun K "outcome" "outcome" OP f fd) (RA:Fn P w K mg base 1 "above" ["tree"] (Uz K)) (RK:Fn P w K mg base 53 "reckoned" ["turning", "rules", "tree", "make"] (ZZ K e R op dd 41)):FnOk P w K mg base CX0 54 f fd ["turning", "term", "tree", "make"] (U8 K e R op dd):=by
 refine F.ok Ra (8:) (4:)
 ·obtain ⟨tu,wd,lm,sv,mo,T,v,u,rv,t,fm,rfl,_⟩:=h
  rfl
 obtain ⟨tu,wd,lm,sv,mo,T,v,u,rv,t,fm,rfl,hT,hO,hTB,hm10,hv,hlu,hsu,htr,hlt,hst,hL,q⟩:=h
 refine ⟨_,(Qh (Qp (Yl (Yw hr) (Qq RK hr (Qa (pv 0) (Qa (Nk (LL Qd (pv 1) Np) rfl rfl (27:) (27:)) (Qa (Qq RA hr (Qa (pv 2) Qc)) (Qa (pv 3) Qc))))) Qd (2:)))),?_⟩
 refine ⟨_,rfl,fun d hd=>?_⟩
 have g1:=Qf hd (.dK [])
 refine ⟨_,rfl,Qb,[(Sum.inl 0,v)],rfl,(by show 1≤15;decide),?_⟩
 have e1:Y2 ([]:List (Key × V)) [(Sum.inl 0,v)]=kvI [(0,v,u)]:=rfl
 rw [e1]
 have g2:Same H (upd (upd H d (.dK [])) d (.dK (kvI [(0,v,u)]))):=fun x y z=>by rw [Qg (Qi z hd)];exact g1 _ _ z
 have hd2:upd (upd H d (.dK [])) d (.dK (kvI [(0,v,u)])) d=some (.dK (kvI [(0,v,u)])):=Qb
 generalize upd (upd H d (.dK [])) d (.dK (kvI [(0,v,u)]))=H2 at g2 hd2
 refine ⟨_,rfl,rv,t,rfl,htr.mono fun _ _=>g2.seqT,fun v' H3 g3 hup=>⟨_,rfl,?_⟩⟩
 have g:=g2.trans g3
 refine ⟨tu,wd,lm,sv,mo,T,d,[(0,v,u)],v',upT t,fm,rfl,hT.same g,hO,hTB,hm10,⟨g3 _ _ hd2,fun p hp=>?_⟩,by simp,(by show 1≤100;decide),hup,by rw [Oq];lia,fun p hp=>?_,hL.same g,fun d' H4 os g4 hd4 hos=>?_⟩
 ·have:p=(0,v,u):=by simpa using hp
  rw [this]
  exact hv.mono fun _ _=>g.seqT
 ·have:p=(0,v,u):=by simpa using hp
  rw [this]
  exact ⟨hst,hlu,hsu⟩
 ·obtain ⟨p,hp,_,x,e2,e3⟩:=XE (m:=0) (ps:=[(0,v,u)]) (24:) hos
  have:p=(0,v,u):=by simpa using hp
  rw [this] at e3
  exact ⟨d',x,rfl,.inl ⟨_,.inl 0,.inl hd4,rfl,e2.symm⟩,q x H4 (g.trans g4) e3⟩
end
end K25
namespace L2
open PySem PySem.Spec PyProof.Rows
theorem Gx {P:Program} {w:World} {K:PySem.W.Frag} {mg mb:Str→Option Value} {k:Nat} {fa a:Addr} {fd:FuncData} {x:Str} {sp:Sp} {s₁:Shared} {vs:List Value} {ns:List Int} {Ts:List Addr}
 (KX:K.In s₁.heap) (hns:s₁.heap.Ns mainGlobals mg) (hb:s₁.heap.Ns builtinsNs mb) (hbb:∀ x:Str,x ≠ "__name__" → mb x=bootBuiltins x) (hlim:s₁.heap.NoLimit) (hg:s₁.gens=#[]) (hbt:U1 mg s₁.heap)
 (hTs:∀ T ∈ Ts,s₁.heap.get? T=some { cls:=.none,data:=.fields #[] }∧isCodeTable s₁.heap T∧K.lookup T=none)
 (ha:s₁.heap.get? a=some { cls:=.type "list", data:=.seq vs.toArray }) (hi:IntsAre vs ns) (hl:ns.length≤sizeLine) (hr:Room k callerA)
 (F:∀ base:Heap,K.In base→base.Ns mainGlobals mg→U1 mg base→FnOk P w K mg base CX0 k fa fd [x] sp) (hbind:∀ (s:Shared) (u:Value),BindsTo s fd ⟨[u],[]⟩ [(x,u)])
 (hsp:∀ H:Hp,SqL K H a (ns.map V.int)→(∀ T ∈ Ts,H T=some (.tbl #[]))→sp [.ref a] H (fun v _=>v=.bl true) fun _ _ _=>False) :
 codeAny (model P w) callerA (.call (.ref fa) ⟨[.ref a],[]⟩) (31:) s₁:=by
 have rv:=Y9 hi
 have lenV:=hi.length
 have core:∀ H:Hp,(∀ b,H b=none∨(b=a∧K.lookup a=none∧∃ o xs,H b=some (.frz o (.lst xs)))∨(b ∈ Ts∧H b=some (.tbl #[])))→SqL K H a (ns.map V.int)→(∀ T ∈ Ts,H T=some (.tbl #[]))→HOk P w H s₁.heap →
  codeAny (model P w) callerA (.call (.ref fa) ⟨[.ref a],[]⟩) (31:) s₁:=by
  intro H hO hS hT hok
  have base_of:∀ {b:Addr} {o:Obj},s₁.heap.get? b=some o→H b=none→(YD s₁.heap H).get? b=some o:=fun e n=>X0 e n
  have noA:∀ {b:Addr} {o:Obj},s₁.heap.get? b=some o→(∀ xs n,o.data≠.seq xs n)→(∀ xs,o.data≠.fields xs)→H b=none:=fun {b o} e d1 d2=>by
   rcases hO b with z | ⟨rfl,_⟩ | ⟨z,_⟩
   ·exact z
   ·rw [ha] at e;cases e
    exact absurd rfl (d1 _ _)
   ·rw [(hTs b z).1] at e;cases e
    exact absurd rfl (d2 _)
  have nsK:∀ {b:Addr} {m:Str→Option Value},s₁.heap.Ns b m→(YD s₁.heap H).Ns b m:=fun {b m} ⟨o,es,ep,e,d,r⟩=>⟨o,es,ep,base_of e (noA e (fun _ _ z=>by rw [d] at z;cases z) (fun _ z=>by rw [d] at z;cases z)),d,r⟩
  have hKb:K.In (YD s₁.heap H):=fun b o e=>base_of (KX b o e) (by
   rcases hO b with z | ⟨rfl,hk,_⟩ | ⟨z,_⟩
   ·exact z
   ·rw [hk] at e;cases e
   ·rw [(hTs b z).2.2] at e;cases e)
  have hBt:U1 mg (YD s₁.heap H):=by
   obtain ⟨bm,o,b1,b2,b3,b4,b5,b6,b7⟩:=hbt
   exact ⟨bm,o,b1,b2,b3,base_of b4 (noA b4 (fun _ _ z=>by rw [b7] at z;cases z) (fun _ z=>by rw [b7] at z;cases z)),b5,b6,b7⟩
  have hM:Mod K mg (YD s₁.heap H):=⟨hKb,nsK hns,⟨mb,nsK hb,hbb⟩,let ⟨mc,h1,h2⟩:=hlim;⟨mc,nsK h1,h2⟩⟩
  have e0:Env0 P w K mg (YD s₁.heap H) callerA [] s₁ H:=⟨rfl,hM,fun b o e=>Vi e,Nat.le_of_eq (JJ _ _),trivial,fun b hb=>absurd (show b ∈ ([]:List Addr) from hb) (24:),hok,.of_eq hg⟩
  refine codeAny_mono ((F _ hKb (nsK hns) hBt).run callerA [] s₁ H ⟨[.ref a],[]⟩ [.ref a] [.ref a] _ _ hr e0 (hbind s₁ (.ref a)) (.cons rfl .nil) (hsp H hS hT)) fun r s' h=>?_
  cases r with
  | error e=>exact h.elim
  | ok fl =>
   cases fl with
   | next=>exact False.elim h
   | brk=>exact False.elim h
   | cont=>exact False.elim h
   | ret u =>
    obtain ⟨v,H',os,bare,un,hok',r',q⟩:=h
    have q':v=.bl true:=q
    subst q'
    obtain rfl:u=Value.bool true:=r'
    refine ⟨rfl,⟨fun b o e=>?_,fun b o e=>un.there b o e (24:)⟩,os,bare⟩
    rcases hO b with z | ⟨rfl,_,ob,xs,z⟩ | ⟨zT,z⟩
    ·exact .inl (un.keep b o e z (by intro z;exact absurd (show b ∈ ([]:List Addr) from z) (24:)) (24:))
    ·have z2:=un.frzs b ob _ z
     obtain ⟨e1,_⟩:=hok b _ z
     obtain ⟨e2,_⟩:=hok' b _ z2
     rw [e] at e1;cases e1
     exact .inl e2
    ·obtain ⟨more,z2⟩:=un.tbls b _ z
     have e2:s'.heap.get? b=some { cls:=.none,data:=.fields (#[] ++ more) }:=hok' b _ z2
     obtain ⟨t1,t2,_⟩:=hTs b zT
     rw [t1] at e;cases e
     exact .inr (.inl ⟨t2,rfl,#[],more,rfl,e2⟩)
 have haT:∀ T ∈ Ts,T≠a:=fun T hT z=>by
  have:=(hTs T hT).1
  rw [z,ha] at this;cases this
 cases hk:K.lookup a with
 | some o =>
  have e:=KX a o hk
  rw [ha] at e
  cases e
  refine core (fun b=>if b ∈ Ts then some (.tbl #[]) else none) (fun b=>?_) (.inr ⟨_,vs.toArray,_,hk,rfl,rfl,rfl,by rw [List.size_toArray,lenV];exact hl,by simpa using rv⟩) (fun T hT=>if_pos hT) (fun b u z=>?_)
  ·by_cases hb:b ∈ Ts
   ·exact .inr (.inr ⟨hb,if_pos hb⟩)
   ·exact .inl (if_neg hb)
  ·by_cases hb:b ∈ Ts
   ·have z':=(if_pos hb).symm.trans z
    cases z'
    exact (hTs b hb).1
   ·have z':=(if_neg hb).symm.trans z
    cases z'
 | none =>
  refine core (fun b=>if b=a then some (.frz { cls:=.type "list", data:=.seq vs.toArray } (.lst (ns.map V.int))) else if b ∈ Ts then some (.tbl #[]) else none) (fun b=>?_) (.inl (.inr ⟨{ cls:=.type "list", data:=.seq vs.toArray },if_pos rfl⟩)) (fun T hT=>(if_neg (haT T hT)).trans (if_pos hT)) (fun b u z=>?_)
  ·by_cases hb:b=a
   ·exact .inr (.inl ⟨hb,hk,_,_,if_pos hb⟩)
   ·by_cases hbT:b ∈ Ts
    ·exact .inr (.inr ⟨hbT,(if_neg hb).trans (if_pos hbT)⟩)
    ·exact .inl ((if_neg hb).trans (if_neg hbT))
  ·by_cases hb:b=a
   ·have z':=(if_pos hb).symm.trans z
    cases z'
    subst hb
    exact ⟨ha,by rw [List.length_map];exact hl,vs,_,rv,ha⟩
   ·have z1:=(if_neg hb).symm.trans z
    by_cases hbT:b ∈ Ts
    ·have z':=(if_pos hbT).symm.trans z1
     cases z'
     exact (hTs b hbT).1
    ·have z':=(if_neg hbT).symm.trans z1
     cases z'
structure TabAt (q:Program) (K:PySem.W.Frag) (x:Str) (c T:Addr):Prop where
 fnd:∃ d,(recsOf q).find? (fun e=>e.name == x)=some d
 tab:PySem.W.tabIn K x=some (c,T)
 hd:PySem.W.codeHdIn K c T=true
 no:K.lookup T=none
theorem walk_ofT {l:PySem.W.OpenLaw} {n k:Nat} {q:Program} {loose:List Str} {XP:(Str→Option Value)→Heap→Prop} {YP:World→Heap→Prop} {d:DefRec} {K:Params→PySem.W.Frag} {sp:World→Sp} {x:Str} {tabs:List (Str × Addr × Addr)}
 (hn:l.most=some n) (hn2:n≤sizeLine) (hdf:d.params.defaults=[]) (hr:Room k callerA)
 (hY:∀ (w:World) (h:Heap),YP w h→(K w.params).In h)
 (htab:∀ (w:World),∀ p ∈ tabs,TabAt q (K w.params) p.1 p.2.1 p.2.2)
 (F:∀ (w:World) (mg:Str→Option Value) (fa:Addr) (h:Heap),(K w.params).In h→h.Ns mainGlobals mg→mg d.name=some (.ref fa) →
  ∃ fd:FuncData,(∀ (s:Shared) (u:Value),BindsTo s fd ⟨[u],[]⟩ [(x,u)]) ∧
   ∀ base:Heap,(K w.params).In base→base.Ns mainGlobals mg→U1 mg base→FnOk l.prog w (K w.params) mg base CX0 k fa fd [x] (sp w))
 (hsp:∀ (w:World) (H:Hp) (a:Addr) (ns:List Int),ns.length≤n→SqL (K w.params) H a (ns.map V.int)→(∀ p ∈ tabs,H p.2.2=some (.tbl #[]))→sp w [.ref a] H (fun v _=>v=.bl true) fun _ _ _=>False) :
 PySem.W.WalkO q loose XP YP l.row.toRowW d [] (fun f vs=>PySem.call f vs):=by
 refine Att.attach_call hn hdf fun w s₀ s₁ mg mb fa o pm cd doc a vs ns G Y ho hd hcd hmg hobj hints hlen hg=>?_
 have KX:=hY w _ Y
 obtain ⟨fd,hb,hF⟩:=F w mg fa _ KX G.T.g hmg
 have hbt:U1 mg s₁.heap:=by
  obtain ⟨bm,ob,b1,b2,b3,b4,b5,b6⟩:=G.T.bmain
  have hbG:bm≠mainGlobals:=fun q=>by
   obtain ⟨o,es,ep,e,hd,_⟩:=G.T.g
   rw [q,e] at b3;cases b3;rw [hd] at b6;cases b6
  exact ⟨bm,ob,b1,b2,hbG,b3,b4,b5,b6⟩
 refine Gx (Ts:=tabs.map fun p=>p.2.2) KX G.T.g G.T.b G.T.builtins G.T.nolimit hg hbt (fun T hT=>?_) hobj hints (Nat.le_trans hlen hn2) hr hF hb (fun H hS hT=>hsp w H a ns hlen hS fun p hp=>hT _ (List.mem_map.mpr ⟨p,hp,rfl⟩))
 obtain ⟨p,hp,rfl⟩:=List.mem_map.mp hT
 obtain ⟨⟨dd,hrec⟩,ht,_,hno⟩:=htab w p hp
 obtain ⟨hc,h0⟩:=PySem.W.tab_of G.T KX hrec ht
 exact ⟨h0,(hc.tab h0).isCodeTable,hno⟩
end L2
namespace K25
open PySem L2 TM TT K9 K11
abbrev eM:Expr:=G7 (MZ Ym) 3
abbrev eT:Expr:=G7 (MZ Yn) 3
abbrev qM:Str:=(PyProof.Rows.envOfC "many_by" (defScope Ym) 0 0 .none).qual ++ "<lambda>"
abbrev qT:Str:=(PyProof.Rows.envOfC "tall_by" (defScope Yn) 0 0 .none).qual ++ "<lambda>"
def RN (_:Hp) (v:V) (a:Nat):Prop:=v=.int (a:Int)
theorem VQ {K:PySem.W.Frag}:Rep K RN:=fun _ _ _ _ _ h=>h
def opM (_:Lab) (_:Int) (xs:List Nat):Nat:=1 + xs.sum
def opT (_:Lab) (_:Int) (xs:List Nat):Nat:=1 + xs.foldl max 0
theorem Xs {H:Hp}:∀ {ys:List V} {xs:List Nat},RAll RN H ys xs→ys=(xs.map fun a=>((a:Nat):Int)).map V.int
 | _,_,.nil=>rfl
 | _,_,.cons (v:=v) h t=>by
  have h':v=_:=h
  rw [h',Xs t];rfl
theorem WD:∀ xs:List Nat,(xs.map fun a=>((a:Nat):Int)).sum=((xs.sum:Nat):Int)
 | []=>rfl
 | x :: r=>by
  have:=WD r
  simp only [List.map_cons,List.sum_cons];lia
theorem Wb:∀ (xs:List Nat) (a:Nat),a≤xs.foldl max a∧(∀ x ∈ xs,x≤xs.foldl max a)∧(xs.foldl max a=a∨xs.foldl max a ∈ xs)
 | [],a=>⟨Nat.le_refl _,fun _ h=>(nomatch h),.inl rfl⟩
 | x :: r,a=>by
  obtain ⟨h1,h2,h3⟩:=Wb r (max a x)
  simp only [List.foldl_cons]
  refine ⟨by lia,fun y hy=>?_,?_⟩
  ·rcases List.mem_cons.mp hy with rfl | hy
   ·lia
   ·exact h2 y hy
  ·rcases h3 with h3 | h3
   ·rw [h3]
    rcases Nat.le_total a x with z | z
    ·rw [Nat.max_eq_right z];exact .inr List.mem_cons_self
    ·rw [Nat.max_eq_left z];exact .inl rfl
   ·exact .inr (List.mem_cons_of_mem _ h3)
section
variable {P:Program} {w:World} {K:PySem.W.Frag} {mg:Str→Option Value} {base:Heap} {f:Addr} {fd:FuncData}
theorem SE:FnScope ["put", "mark", "parts"] ["put", "mark", "parts"] (Q1 eM):=(1:)
theorem Sy:FnScope ["put", "mark", "parts"] ["put", "mark", "parts"] (Q1 eT):=(1:)
theorem O5 {us:List Value} (h:us.length=3):∃ a b c,us=[a,b,c]:=by
 match us,h with
 | [a,b,c],_=>exact ⟨a,b,c,rfl⟩
theorem MT (G:Gm mg):W0 P w K mg base 2 eM (Mh K RN opM):=by
 refine Xo SE (8:) (fun qual pm c ctv us h=>?_) (fun qual f c A outer s H vs Q E hr h=>?_)
 ·obtain ⟨v,u,mk,lp,ys,xs,rfl,_⟩:=h
  rfl
 ·obtain ⟨a,b,d,rfl⟩:=O5 h
  rfl
 ·obtain ⟨v,u,mk,lp,ys,xs,rfl,_,_,hl,hx,_,q⟩:=h
  refine ⟨_,Ql QK Qd (Qr (Gs rfl) rfl G.sum PyProof.Rows.boot_sum (Qa (pv 2) Qc)),?_⟩
  have e:=Xs hx
  subst e
  refine ⟨_,rfl,lp,_,rfl,SqL.of hl,_,_,rfl,rfl,q _ H (Same.refl _) ?_⟩
  show V.int _=V.int _
  rw [WD]
  unfold opM
  congr 1
theorem G6 (G:Gm mg):W0 P w K mg base 2 eT (Mh K RN opT):=by
 refine Xo Sy (8:) (fun qual pm c ctv us h=>?_) (fun qual f c A outer s H vs Q E hr h=>?_)
 ·obtain ⟨v,u,mk,lp,ys,xs,rfl,_⟩:=h
  rfl
 ·obtain ⟨a,b,d,rfl⟩:=O5 h
  rfl
 ·obtain ⟨v,u,mk,lp,ys,xs,rfl,_,_,hl,hx,_,q⟩:=h
  refine ⟨_,Ql QK Qd (V5 (GG rfl) rfl G.max PyProof.Rows.boot_max (Qa (pv 2) Qc) (Nn Qd PR)),?_⟩
  have e:=Xs hx
  subst e
  refine ⟨_,rfl,lp,_,_,rfl,rfl,SqL.of hl,fun hn=>?_,fun M hM hle=>?_⟩
  ·have:xs=[]:=by simpa using hn
   subst this
   exact ⟨_,_,rfl,rfl,q _ H (Same.refl _) rfl⟩
  ·refine ⟨_,_,rfl,rfl,q _ H (Same.refl _) ?_⟩
   show V.int _=V.int _
   unfold opT
   obtain ⟨h1,h2,h3⟩:=Wb xs 0
   obtain ⟨x,hx,rfl⟩:=List.mem_map.mp hM
   have a1:=h2 x hx
   have a2:xs.foldl max 0≤x:=by
    rcases h3 with h3 | h3
    ·lia
    ·have:=hle _ (List.mem_map.mpr ⟨_,h3,rfl⟩)
     lia
   congr 1
   lia
def Ws (K:PySem.W.Frag) (T0:Addr) (e:Expr) (qual:Str) (op:Lab→Int→List Nat→Nat):Sp:=fun vs H Q _=>∃ (tu wd lm:Addr) (sv:V) (mo:List MdT) (T:Tu) (v:V) (u:Tm) (rv:V) (t:Tree Str),vs=[.ref tu,v,rv]∧TurnAt K H tu wd lm sv mo T∧TurnOk mo T∧TBd T∧mo.length≤10∧TmV K H v u∧lv u≤8∧sz u≤100∧TrV K H rv t∧lv t≤40∧St T (u,upT t)∧TbS H T0 (Zy e) qual ∧
 ∀ H':Hp,SameX T0 H H'→TbS H' T0 (Zy e) qual→Q (.int ((Zu op 0 T u (upT t):Nat):Int)) H'
theorem Mo.tb {K:PySem.W.Frag} {H H':Hp} {T0:Addr} {ps:Array Value} (h:H T0=some (.tbl ps)) (g:SameX T0 H H'):Mo K H H':=Mo.sx h (fun _ z=>nomatch z) (fun _ z=>nomatch z) (fun _ _ z=>nomatch z) (fun _ _ z=>nomatch z) g
theorem Lb:FnScope ["turning", "term", "tree"] ["turning", "term", "tree"] (defScope Ym):=(1:)
theorem Lu:FnScope ["turning", "term", "tree"] ["turning", "term", "tree"] (defScope Yn):=(1:)
theorem Pn:FnScope ["turning", "tree"] ["turning", "tree"] (defScope Vw):=(1:)
theorem PL:FnScope ["turning", "tree"] ["turning", "tree"] (defScope Vx):=(1:)
theorem GP {c T0:Addr} (F:Fun K "many_by" "many_by" Ym f fd) (hn:PySem.W.nsIn K mainGlobals "many_by" = some (some (.ref f))) (hT:PySem.W.tabIn K "many_by" = some (c,T0)) (hC:PySem.W.codeHdIn K c T0=true) (hB:U1 mg base) (RO:Fn P w K mg base 54 "outcome" ["turning", "term", "tree", "make"] (U8 K eM RN opM 0)):FnOk P w K mg base CX0 55 f fd ["turning", "term", "tree"] (Ws K T0 eM qM opM):=by
 refine Fun.okC F hn hT Lb (8:) (fun A outer s H vs Q E hr h=>?_)
 ·obtain ⟨tu,wd,lm,sv,mo,T,v,u,rv,t,rfl,_⟩:=h
  rfl
 obtain ⟨tu,wd,lm,sv,mo,T,v,u,rv,t,rfl,hTu,hO,hTB,hm10,hv,hlu,hsu,htr,hlt,hst,htb,q⟩:=h
 refine ⟨_,(Qh (Qp (Qq RO hr (Qa (pv 0) (Qa (pv 1) (Qa (pv 2) (Qa (W5 (c:=c) (T:=T0) rfl hC hB) Qc))))))),?_⟩
 obtain ⟨ps,hps⟩:=htb.at
 refine ⟨_,rfl,_,rfl,_,rfl,htb,fun fm H1 g1 _ hL htb1=>?_⟩
 have gm:Mo K H H1:=Mo.tb hps g1
 exact ⟨tu,wd,lm,sv,mo,T,v,u,rv,t,fm,rfl,gm.turn hTu,hO,hTB,hm10,hv.mono gm.t,hlu,hsu,htr.mono gm.t,hlt,hst,hL,fun v' H2 g2 hv'=>by
  have hv'':v'=.int ((Zu opM 0 T u (upT t):Nat):Int):=hv'
  subst hv''
  exact q H2 (g1.trans (SameX.of g2)) (htb1.same g2)⟩
theorem GD {c T0:Addr} (F:Fun K "tall_by" "tall_by" Yn f fd) (hn:PySem.W.nsIn K mainGlobals "tall_by" = some (some (.ref f))) (hT:PySem.W.tabIn K "tall_by" = some (c,T0)) (hC:PySem.W.codeHdIn K c T0=true) (hB:U1 mg base) (RO:Fn P w K mg base 54 "outcome" ["turning", "term", "tree", "make"] (U8 K eT RN opT 0)):FnOk P w K mg base CX0 55 f fd ["turning", "term", "tree"] (Ws K T0 eT qT opT):=by
 refine Fun.okC F hn hT Lu (8:) (fun A outer s H vs Q E hr h=>?_)
 ·obtain ⟨tu,wd,lm,sv,mo,T,v,u,rv,t,rfl,_⟩:=h
  rfl
 obtain ⟨tu,wd,lm,sv,mo,T,v,u,rv,t,rfl,hTu,hO,hTB,hm10,hv,hlu,hsu,htr,hlt,hst,htb,q⟩:=h
 refine ⟨_,(Qh (Qp (Qq RO hr (Qa (pv 0) (Qa (pv 1) (Qa (pv 2) (Qa (W5 (c:=c) (T:=T0) rfl hC hB) Qc))))))),?_⟩
 obtain ⟨ps,hps⟩:=htb.at
 refine ⟨_,rfl,_,rfl,_,rfl,htb,fun fm H1 g1 _ hL htb1=>?_⟩
 have gm:Mo K H H1:=Mo.tb hps g1
 exact ⟨tu,wd,lm,sv,mo,T,v,u,rv,t,fm,rfl,gm.turn hTu,hO,hTB,hm10,hv.mono gm.t,hlu,hsu,htr.mono gm.t,hlt,hst,hL,fun v' H2 g2 hv'=>by
  have hv'':v'=.int ((Zu opT 0 T u (upT t):Nat):Int):=hv'
  subst hv''
  exact q H2 (g1.trans (SameX.of g2)) (htb1.same g2)⟩
end
end K25
namespace L2
open PySem PySem.Spec PyProof.Rows
theorem ObjOk.there {P:Program} {w:World} {H:Hp} {h:Heap} {a:Addr} {o:HO} (x:ObjOk P w H h a o):∃ ob,h.get? a=some ob:=by
 cases o with
 | lst xs=>obtain ⟨_,_,_,_,e⟩:=x;exact ⟨_,e⟩
 | tup xs=>obtain ⟨_,_,_,_,e,_⟩:=x;exact ⟨_,e⟩
 | dK kvs=>obtain ⟨_,_,_,_,o,_,_,e,_⟩:=x;exact ⟨_,e⟩
 | dT kvs=>obtain ⟨_,_,_,_,o,_,_,e,_⟩:=x;exact ⟨_,e⟩
 | set S n=>obtain ⟨o,_,_,_,e,_⟩:=x;exact ⟨_,e⟩
 | ins C dx fs=>obtain ⟨_,_,_,e,_⟩:=x;exact ⟨_,e⟩
 | own y=>obtain ⟨_,e⟩:=x;exact ⟨_,e⟩
 | xd fs=>obtain ⟨_,⟨_,_,_,e,_⟩,_⟩:=x;exact ⟨_,e⟩
 | rng lo hi=>obtain ⟨_,_,_,e⟩:=x;exact ⟨_,e⟩
 | frz ob u=>obtain ⟨e,_⟩:=x;exact ⟨_,e⟩
 | tbl ps=>exact ⟨_,(show h.get? a=some _ from x)⟩
 | met f y=>exact ⟨_,(show h.get? a=some _ from x)⟩
 | ext φ=>obtain ⟨_,e,_⟩:=x;exact e
def Cov (B:Heap) (fs:List Addr) (H':Hp) (h h1:Heap):Prop:=∀ b o,h1.get? b=some o→(H' b≠none∨∃ o',h.get? b=some o')→b ∉ fs→B.get? b=some o
structure Flw (P:Program) (w:World) (outer:List Env) (H:Hp) (s:Shared) (a:Addr) (cls:Value) (H':Hp) (s':Shared):Prop where
 os:s'.os=s.os
 bare:AllBare s'.gens
 un:Un (frs outer) [] H H' s.heap s'.heap
 hok:HOk P w H' s'.heap
 fly:∃ B t,Heap.FlyingW B outer a cls (.ref t) s'.heap∧Cov B (frs outer) H' s.heap s'.heap
def CX1 (P:Program) (w:World):CXT:=fun outer H s E e s'=>∃ (a:Addr) (cls:Value) (H':Hp),e=.ref a∧Flw P w outer H s a cls H' s'∧E cls none H'
theorem O8 {fs:List Addr} {H H':Hp} {h h1 h2 B:Heap} (u:Un fs [] H H' h h1) (cov:Cov B fs H' h h1) (st:B.StaysIn h2) (up:h1.UpToSlots h2) (hfs:∀ b ∈ fs,∀ o,h1.get? b=some o→∀ vs,o.data≠.fields vs):Un fs [] H H' h h2 where
 keep:=fun b o e n hb hx=>st _ _ (cov b o (u.keep b o e n hb hx) (.inr ⟨o,e⟩) hb)
 slot:=fun b o e n hb hx=>by
  obtain ⟨sl,e1⟩:=u.slot b o e n hb hx
  obtain ⟨sl2,e2⟩:=up b _ e1 (hfs b hb _ e1)
  exact ⟨sl2,e2⟩
 free:=u.free
 there:=fun b o e hx=>by
  obtain ⟨o1,e1⟩:=u.there b o e hx
  by_cases hb:b ∈ fs
  ·obtain ⟨sl2,e2⟩:=up b _ e1 (hfs b hb _ e1)
   exact ⟨_,e2⟩
  ·exact ⟨o1,st _ _ (cov b o1 e1 (.inr ⟨o,e⟩) hb)⟩
 tups:=u.tups
 frzs:=u.frzs
 tbls:=u.tbls
theorem NQ {P:Program} {w:World} {fs:List Addr} {H':Hp} {h h1 h2 B:Heap} (hok:HOk P w H' h1) (trk:∀ b ∈ fs,H' b=none) (cov:Cov B fs H' h h1) (st:B.StaysIn h2):HOk P w H' h2:=fun b u e=>by
 refine (hok b u e).stay (fun c v hc r=>?_) (fun _ r=>r) fun _ _ r=>r
 have hne:H' c≠none:=by
  rcases hc with rfl | hc
  ·rw [e];intro z;cases z
  ·rw [hc];intro z;cases z
 exact st _ _ (cov c v r (.inl hne) fun z=>hne (trk c z))
section
variable {X:Cx} {pins:List (9:)} {σ:St} {H H':Hp} {s s':Shared}
theorem UV {B:Heap} {l:List Env} {h:Heap} (hl:h.FunFrames B l):∀ b ∈ frs l,∀ o,h.get? b=some o→∀ vs,o.data≠.fields vs:=fun b hb o e vs=>by
 obtain ⟨_,o',e',d⟩:=hl.mem hb
 rw [e] at e'
 cases e'
 exact d vs
theorem VS (I:Inv X pins σ H s) (u:Un (frs X.stack) [] H H' s.heap s'.heap):∀ b ∈ frs X.stack,H' b=none:=fun b hb=>by
 obtain ⟨_,o,ho,_⟩:=I.stack.mem hb
 exact u.free b o ho (I.stkFree b hb) (24:)
theorem Inv.flown {h2 B:Heap} (I:Inv X pins σ H s) (os:s'.os=s.os) (bare:AllBare s'.gens) (un:Un (frs X.stack) [] H H' s.heap s'.heap) (hok:HOk X.prog X.w H' s'.heap) (hfr:s'.heap.FunFrames B X.stack) (cov:Cov B (frs X.stack) H' s.heap s'.heap) (st:B.StaysIn h2) (up:s'.heap.UpToSlots h2) :
 Inv X pins σ H' { s' with heap:=h2 } :=
 I.call' (s':={ s' with heap:=h2 }) (ch:=[]) os (O8 un cov st up (UV hfr)) (NQ hok (VS I un) cov st) bare (fun b z=>absurd z (24:))
theorem Cov.out {B h2:Heap} {H0:Hp} {s0:Shared} (I:Inv X pins σ H s) (hH0:X.H₀=H0) (hs0:X.s₀=s0) (hex:X.ex=[]) (un:Un (frs X.stack) [] H H' s.heap s'.heap) (hok:HOk X.prog X.w H' s'.heap) (cov:Cov B (frs X.stack) H' s.heap s'.heap) (st:B.StaysIn h2):Cov B X.fs H' s0.heap h2:=fun b o e hb nb=>by
 have key:∃ o',s'.heap.get? b=some o'∧b ∉ frs X.stack∧(H' b≠none∨∃ o',s.heap.get? b=some o'):=by
  rcases hb with hb | ⟨o',hb⟩
  ·cases hH:H' b with
   | none=>exact absurd hH hb
   | some u =>
    obtain ⟨o',ho'⟩:=(hok b u hH).there
    refine ⟨o',ho',fun z=>?_,.inl (32:)⟩
    rw [VS I un b z] at hH
    cases hH
  ·have h1:X.s₀.heap.get? b=some o':=by rw [hs0];exact hb
   obtain ⟨o1,e1⟩:=I.base.there b o' h1 (by rw [hex];simp)
   obtain ⟨o2,e2⟩:=un.there b o1 e1 (24:)
   refine ⟨o2,e2,fun z=>?_,.inr ⟨o1,e1⟩⟩
   rcases List.mem_cons.mp (I.stkSub b z) with z | z
   ·rw [z] at h1
    exact absurd (Nat.lt_of_lt_of_le (Heap.lt_size h1) I.ok.above) (Nat.lt_irrefl _)
   ·exact nb z
 obtain ⟨o',h1,h2',h3⟩:=key
 have hB:=cov b o' h1 h3 h2'
 have:=st _ _ hB
 rw [e] at this
 cases this
 exact hB
end
section
variable {P:Program} {w:World} {K:PySem.W.Frag} {mg:Str→Option Value} {base:Heap} {N:List Str} {qual:Str} {scope:Scope} {f:Addr} {cd:Value} {A:Around} {outer:List Env} {s:Shared} {H:Hp} {E:XK}
theorem P1 {E':XK} (k:∀ cls H',E' cls none H'→E cls none H'):XC (CX1 P w) (37:) E':=by
 intro pins σ H1 s1 e s' I h
 obtain ⟨a,cls,H',rfl,F,q⟩:=h
 obtain ⟨B,t,hfl,cov⟩:=F.fly
 show wpAny (model P w) (A.deeper (11:)) (leaving (11:) (.ref a)) _ _ s'
 refine wpAny_leaves_onW I.ok.frames rfl hfl fun h2 hfl2 up=>?_
 have J:=I.flown F.os F.bare F.un F.hok hfl.2.2.1 cov hfl2.1 up
 exact ⟨a,cls,H',rfl,⟨J.os,J.bare,J.base,J.hok,B,t,hfl2,Cov.out I rfl rfl rfl F.un F.hok cov hfl2.1⟩,k _ _ q⟩
theorem Pp {pins:List (9:)} {σ:St} {H1:Hp} {s1:Shared} {a:Addr} {cls:Value} {args:List Value} {h':Heap} (I:Inv (37:) pins σ H1 s1) (hx:Heap.MadeExcOf s1.heap h' a cls args) (q:E cls none H1) :
 (37:).xe (.ref a) { s1 with heap:=h' }:=by
 show wpAny (model P w) (A.deeper (11:)) (leaving (11:) (.ref a)) _ _ _
 obtain ⟨stk,hstk⟩ : ∃ stk,stk=envOfC qual scope s.heap.objs.size f cd :: outer:=(54:)
 have hfr:s1.heap.FunFrames (PySem.W.hideAll s1.heap (frs stk)) stk:=by
  have:=I.stack
  rw [hstk]
  exact PySem.W.funFrames_hide this fun env he b hb=>List.mem_filterMap.mpr ⟨env,he,hb⟩
 have cov:Cov (PySem.W.hideAll s1.heap (frs stk)) (frs stk) H1 s1.heap s1.heap:=fun b o e _ nb=>PySem.W.hideAll_get _ e nb
 refine wpAny_leaves_madeW (base:=PySem.W.hideAll s1.heap (frs stk)) (h:=s1.heap) I.ok.frames rfl (fun b o q=>PySem.W.of_hideAll _ q) (hstk ▸ hfr) hx fun h2 t hfl2 tup hbt up=>?_
 subst hstk
 have up':s1.heap.UpToSlots h2:=(Heap.UpToSlots.of_keeps hx.keeps).trans up
 have J:=I.flown (s':=s1) rfl I.bare Un.refl I.hok hfr cov hfl2.1 up'
 exact ⟨a,cls,H1,rfl,⟨J.os,J.bare,J.base,J.hok,_,t,hfl2,Cov.out (s':=s1) I rfl rfl rfl Un.refl I.hok cov hfl2.1⟩,q⟩
end
end L2
namespace L2
open PySem PySem.Spec PyProof.Rows
abbrev Wm:List Value:=[.type "ValueError", .type "Exception", .type "BaseException", .type "object"]
theorem Nv {K:PySem.W.Frag} {h:Heap} {C:Addr} {bmB:List Value} {newId:String} (X:K.In h) (q:PySem.W.excIn K C bmB newId=true) :
 ∃ tl N nm qn bs hdct sn sub ab col dd k0 k1 k2 k3 k5 mN,h.get? C=some (excClassObj nm qn C N bs tl hdct sn sub ab col dd k0 k1 k2 k3 k5 newId)∧h.Ns N mN∧mN "__init__" = none∧OwnTail h bmB tl:=by
 unfold PySem.W.excIn at q
 split at q
 ·rename_i dd cd sl ho
  split at q
  ·rename_i C' bm k0 k1 k2 k3 n k5 hm hs
   simp only [Bool.and_eq_true,beq_iff_eq,Bool.not_eq_true'] at q
   obtain ⟨⟨⟨⟨⟨e1,e2⟩,hdel⟩,ht⟩,hok⟩,hni⟩:=q
   subst e1 e2
   obtain ⟨nm,bs,mro,ns,qn,hd,sn,sub,ab,col,del⟩:=cd
   dsimp only at hm hdel hok hni
   subst hm hdel
   have hsl:sl=#[k0,k1,k2,k3,some (.builtin n),k5]:=by
    obtain ⟨l⟩:=sl
    exact congrArg Array.mk hs
   subst hsl
   exact ⟨bm,ns,nm,qn,bs,hd,sn,sub,ab,col,dd,k0,k1,k2,k3,k5,_,X _ _ ho,.of_isNs (PySem.W.isNs_of_in X hok),PySem.W.nsMap_none_of_in X hok hni,PySem.W.tail_of_in X ht⟩
  ·cases q
 ·cases q
def OU (C:Addr) (E:XK) (t:TA):TS:=fun D σ H=>t σ H fun vs H1=>vs.length≤sizeLine∧E (.ref C) none H1
section
variable {P:Program} {w:World} {K:PySem.W.Frag} {mg:Str→Option Value} {base:Heap} {N:List Str} {qual:Str} {scope:Scope} {f:Addr} {cd:Value} {A:Around} {outer:List Env} {s:Shared} {H:Hp} {E:XK}
theorem Je {x:Str} {C:Addr} {newId Bn inN:String} {bmN:List Value} {e:Expr} {es:List Expr} {t:TA} {np cpos pos:Pos} (hm:mg x=some (.ref C)) (hq:PySem.W.excIn K C Wm newId=true) (Fn:ExcBaseFacts Bn newId inN bmN) (hBn:Wm.contains (.type Bn)=true)
 (ha:PA (37:) (e :: es) t) (hg:Gl (37:) x:=by rfl) (hd:(41:)=false:=by decide)
 (he:starEach (e :: es) (11:)=(false,eval e (11:)) :: starEach es (11:):=by rfl) (hpl:(backTo cpos (starEach es (11:))).any (·.1)=false:=by rfl) :
 PS (37:) (.Raise (some (.Call (.Name x np) (e :: es) [] cpos)) none pos) (OU C E t):=by
 intro pins s1 σ H1 D I h
 obtain ⟨tl,N',nm,qn,bs,hdct,sn,sub,ab,col,dd,k0,k1,k2,k3,k5,mN,hC,hN,hni,T⟩:=Nv (h:=base) I.ok.mod.kin hq
 refine wpAny_Raise_call_subU (C:=C) (nm:=nm) (q:=qn) (N:=N') (bs:=bs) (bm:=tl) (hdct:=hdct) (sn:=sn) (sub:=sub) (ab:=ab) (col:=col) (dd:=dd) (k0:=k0) (k1:=k1) (k2:=k2) (k3:=k3) (k5:=k5)
  Fn hBn PySem.F.excBase_ValueError (mN:=mN) (T.hasType PySem.F.excBase_ValueError.hasBase) (I.ok.hd rfl) ?_ hni (ZT I hg hm ⟨rfl,?_⟩ hd)
 ·show (backTo cpos (starEach (e :: es) (11:))).any (·.1)=false
  rw [he]
  show (false || (backTo cpos (starEach es (11:))).any (·.1))=false
  rw [hpl];rfl
 ·have hw:=ha cpos pins s1 σ H1 _ I h
  show wpAny (model P w) (A.deeper (11:)) (evalArgs (.ref C) true (backTo cpos (starEach (e :: es) (11:))) []) _ _ s1
  have hw':wpAny (model P w) (A.deeper (11:)) (spliced (backTo cpos (starEach (e :: es) (11:)))) _ _ s1:=hw
  rw [he] at hw' ⊢
  refine Calls.evalArgs_plain (wpAny_mono hw' (fun us s2 h2=>?_) fun _ _ y=>y)
  obtain ⟨vs,H2,I2,r,hl,q⟩:=h2
  exact ⟨rfl,by rw [← r.length];exact hl,I2.bk _ _ hC,hN.keeps I2.bk,T.keeps I2.bk,fun h' a hx=>Pp I2 hx q⟩
end
end L2
namespace L2
open PySem PySem.Spec PyProof.Rows
structure FnX (P:Program) (w:World) (K:PySem.W.Frag) (mg:Str→Option Value) (base:Heap) (k:Nat) (x:Str) (ps:List Str) (sp:Sp):Prop where
 ex:∃ (f:Addr) (fd:FuncData),FnOk P w K mg base (CX1 P w) k f fd ps sp∧Binds K fd ps []∧PySem.W.keepIn K (.ref f)=true∧mg x=some (.ref f)
def Mi (X:Cx) (EE:St→XK):Prop:=∀ (pins:List (9:)) (σ:St) (H:Hp) (s:Shared) (e:Value) (s':Shared),Inv X pins σ H s→CX1 X.prog X.w X.stack H s (EE σ) e s'→X.xe e s'
def Pk (sp:Sp) (EE:St→XK) (t:TA):TE:=fun σ H Q=>t σ H fun vs H1=>sp vs H1 Q (EE σ)
section
variable {X:Cx}
theorem Q3 {k k':Nat} {x:Str} {ps:List Str} {sp:Sp} {EE:St→XK} {p pos:Pos} {e:Expr} {es:List Expr} {t:TA} (F:FnX X.prog X.w X.K X.mg X.base k x ps sp) (hr:Room k' X.A) (hx:Mi X EE) (ha:PA X (e :: es) t) (hk:k≤k':=by decide) (hg:Gl X x:=by rfl)
 (hdb:(41:)=false:=by decide) (he:starEach (e :: es) X.env=(false,eval e X.env) :: starEach es X.env:=by rfl) (hpl:(backTo pos (starEach es X.env)).any (·.1)=false:=by rfl) :
 PE X (.Call (.Name x p) (e :: es) [] pos) (Pk sp EE t):=by
 obtain ⟨f,fd,h1,h2,h3,h4⟩:=F.ex
 intro pins s σ H Q I h
 refine wpAny_Call_Name_kw (ZT I hg h4 ?_ hdb)
 refine PySem.W.callWith_K (h₀:=X.base) I.ok.mod.kin h3 (thn (ha pos pins s σ H _ I h) fun us s1 ⟨vs,H1,I1,r,q⟩=>⟨I1.kIn,?_⟩) he hpl
 have hl:us.length=ps.length:=by rw [← r.length];exact h1.len _ _ _ _ q
 have hb:=h2 s1 us I1.kIn (by rw [List.append_nil];exact hl)
 rw [List.append_nil] at hb
 refine wpAny_call (codeAny_mono (h1.run X.A X.stack s1 H1 ⟨us,[]⟩ us vs Q (EE σ) (hr.mono hk) I1.env0 hb r q) fun r s' hq=>?_)
 cases r with
 | error e=>exact hx pins σ H1 s1 e s' I1 hq
 | ok fl =>
  cases fl with
  | ret u=>exact I1.after hq
  | next=>exact False.elim hq
  | brk=>exact False.elim hq
  | cont=>exact False.elim hq
end
section
variable {P:Program} {w:World} {K:PySem.W.Frag} {mg:Str→Option Value} {base:Heap} {N:List Str} {qual:Str} {scope:Scope} {f:Addr} {cd:Value} {A:Around} {outer:List Env} {s:Shared} {H:Hp} {E:XK}
theorem Zn {E':XK} (k:∀ cls H',E' cls none H'→E cls none H'):Mi (37:) (fun _=>E'):=fun pins σ H1 s1 e s' I h=>P1 k pins σ H1 s1 e s' I h
theorem Fun.okX {x:Str} {st:Stmt} {fd:FuncData} {ps:List Str} {k:Nat} {sp:Sp} (F:Fun K x qual st f fd) (S:FnScope N ps (defScope st)) (len:∀ vs H Q E,sp vs H Q E→vs.length=ps.length)
 (hbody:∀ (cdv:Value) (A:Around) (outer:List Env) (s:Shared) (H:Hp) (vs:List V) (Q:VK) (E:XK),Room k (A.deeper (envOfC qual (defScope st) s.heap.objs.size f cdv))→sp vs H Q E →
  ∃ t,PSs (Z4 (CX1 P w) P w K mg base N qual (defScope st) f cdv A outer s H E) (defBody st) t∧t { nx:=fun _ H'=>Q .non H',rt:=Q } (start N vs) H):FnOk P w K mg base (CX1 P w) (k + 1) f fd ps sp:=by
 obtain ⟨oc,od,kV,doc,pm,an,cdv,ct,osl,rfl,lk,hcd⟩:=F.ex
 exact VL lk hcd S len fun A outer s H vs Q E hr hsp=>hbody cdv A outer s H vs Q E hr hsp
theorem Fun.okXC {x:Str} {st:Stmt} {fd:FuncData} {ps:List Str} {k:Nat} {sp:Sp} {c T:Addr} (F:Fun K x qual st f fd) (hn:PySem.W.nsIn K mainGlobals x=some (some (.ref f))) (hT:PySem.W.tabIn K x=some (c,T)) (S:FnScope N ps (defScope st)) (len:∀ vs H Q E,sp vs H Q E→vs.length=ps.length)
 (hbody:∀ (A:Around) (outer:List Env) (s:Shared) (H:Hp) (vs:List V) (Q:VK) (E:XK),Room k (A.deeper (envOfC qual (defScope st) s.heap.objs.size f (.ref c)))→sp vs H Q E →
  ∃ t,PSs (Z4 (CX1 P w) P w K mg base N qual (defScope st) f (.ref c) A outer s H E) (defBody st) t∧t { nx:=fun _ H'=>Q .non H',rt:=Q } (start N vs) H):FnOk P w K mg base (CX1 P w) (k + 1) f fd ps sp:=by
 obtain ⟨oc,od,kV,doc,pm,an,cdv,ct,osl,rfl,lk,hcd⟩:=F.ex
 have e:cdv=.ref c:=Vz hn lk hT
 subst e
 exact VL lk hcd S len fun A outer s H vs Q E hr hsp=>hbody A outer s H vs Q E hr hsp
end
abbrev Cx.pnd (X:Cx) (pins:List (9:)):Cx:={ X with pn:=X.pn ++ pins }
abbrev Cx.tryx (X:Cx) (pins:List (9:)) (EE:St→XK):Cx:={ X with pn:=X.pn ++ pins,xe:=fun e s'=>∃ pins' σ H s,Inv (X.pnd pins) pins' σ H s∧CX1 X.prog X.w X.stack H s (EE σ) e s' }
abbrev Cx.mrk (X:Cx) (a:Addr):Cx:={ X with A:=X.A.mark (some (.ref a)),calm:=false,xe:=fun _ _=>False }
section
variable {X:Cx} {pins:List (9:)} {σ:St} {H:Hp} {s:Shared} {EE:St→XK} {a:Addr}
theorem Inv.toTry (I:Inv X pins σ H s) (EE:St→XK):Inv (X.tryx pins EE) [] σ H s :=
 ⟨(18:),I.os,I.bare,I.base,I.loc,I.cell,I.free,I.freeC,fun p hp=>I.pin p (by simpa using hp),I.hok,I.len⟩
theorem Inv.ofTry {p2:List (9:)} (I:Inv (X.tryx pins EE) p2 σ H s):Inv X pins σ H s :=
 ⟨(18:),I.os,I.bare,I.base,I.loc,I.cell,I.free,I.freeC,fun p hp=>I.pin p (List.mem_append_left _ hp),I.hok,I.len⟩
theorem Inv.ofTryP {p2:List (9:)} (I:Inv (X.tryx pins EE) p2 σ H s):Inv (X.pnd pins) p2 σ H s :=
 ⟨(18:),I.os,I.bare,I.base,I.loc,I.cell,I.free,I.freeC,I.pin,I.hok,I.len⟩
theorem Inv.ofPnd {p2:List (9:)} (I:Inv (X.pnd pins) p2 σ H s):Inv X pins σ H s :=
 ⟨(18:),I.os,I.bare,I.base,I.loc,I.cell,I.free,I.freeC,fun p hp=>I.pin p (List.mem_append_left _ hp),I.hok,I.len⟩
theorem Inv.toMrk (I:Inv X pins σ H s) (a:Addr) (hf:(X.A.mark (some (.ref a))).frames=X.A.frames):Inv (X.mrk a) pins σ H s :=
 ⟨⟨I.ok.mod,I.ok.kind,I.ok.glob,I.ok.blt,I.ok.above,I.ok.inj,I.ok.has,I.ok.cab,fun z=>(nomatch z),hf.trans I.ok.frames,I.ok.stk,I.ok.exf,I.ok.bs,I.ok.bsz,I.ok.noex,I.ok.exfs,I.ok.funs,I.ok.frf⟩,I.os,I.bare,I.base,I.loc,I.cell,I.free,I.freeC,I.pin,I.hok,I.len⟩
theorem Inv.ofMrk (ok:X.Ok) (I:Inv (X.mrk a) pins σ H s):Inv X pins σ H s:=⟨ok,I.os,I.bare,I.base,I.loc,I.cell,I.free,I.freeC,I.pin,I.hok,I.len⟩
theorem SP.ofTry {D:Ends} {fl:Flow} {s':Shared} (h:SP (X.tryx pins EE) [] D fl s'):SP X pins D fl s':=by
 cases fl with
 | next=>obtain ⟨σ',H',I,q⟩:=h;exact ⟨σ',H',I.ofTry,q⟩
 | brk=>obtain ⟨σ',H',I,q⟩:=h;exact ⟨σ',H',I.ofTry,q⟩
 | cont=>obtain ⟨σ',H',I,q⟩:=h;exact ⟨σ',H',I.ofTry,q⟩
 | ret u=>obtain ⟨v,σ',H',I,r,q⟩:=h;exact ⟨v,σ',H',I.ofTry,r,q⟩
theorem SP.ofMrk {D:Ends} {fl:Flow} {s':Shared} (ok:X.Ok) (h:SP (X.mrk a) pins D fl s'):SP X pins D fl s':=by
 cases fl with
 | next=>obtain ⟨σ',H',I,q⟩:=h;exact ⟨σ',H',I.ofMrk ok,q⟩
 | brk=>obtain ⟨σ',H',I,q⟩:=h;exact ⟨σ',H',I.ofMrk ok,q⟩
 | cont=>obtain ⟨σ',H',I,q⟩:=h;exact ⟨σ',H',I.ofMrk ok,q⟩
 | ret u=>obtain ⟨v,σ',H',I,r,q⟩:=h;exact ⟨v,σ',H',I.ofMrk ok,r,q⟩
theorem Rc:Mi (X.tryx pins EE) EE:=fun p2 σ H s e s' I h=>⟨p2,σ,H,s,I.ofTryP,h⟩
end
end L2
namespace L2
open PySem PySem.Spec PyProof.Rows
def RU (te:TE):TE:=fun σ H Q=>te σ H fun v H1=>∃ i:Int,v=.int i∧i.natAbs.log2 < 1920∧Q (.str (toString i)) H1
def Rq (te:TE):TE:=fun σ H Q=>te σ H fun v H1=>∃ x:Str,v=.str x∧(reprText x).length≤sizeLine∧Q (.str (reprText x)) H1
def OG (t1 t2 t3:TE):TE:=fun σ H Q=>t1 σ H fun v1 H1=>∃ a:Str,v1=.str a∧a.length≤1000∧t2 σ H1 fun v2 H2=>∃ b:Str,v2=.str b∧b.length≤1000∧t3 σ H2 fun v3 H3=>∃ c:Str,v3=.str c∧c.length≤1000∧Q (.str (Str.empty ++ a ++ b ++ c)) H3
def OJ (t1 t2:TE):TE:=fun σ H Q=>t1 σ H fun v1 H1=>∃ a:Str,v1=.str a∧a.length≤1000∧t2 σ H1 fun v2 H2=>∃ b:Str,v2=.str b∧b.length≤1000∧Q (.str (Str.empty ++ a ++ b)) H2
section
variable {X:Cx} {e e1 e2 e3:Expr} {te t1 t2 t3:TE} {pos:Pos}
theorem Vu (he:PE X e te):PE X (.FormattedValue e (-1) none pos) (RU te):=by
 intro pins s σ H Q I h
 refine PySem.wpAny_FormattedValue_plain (thn (he pins s σ H _ I h) fun u s1 ⟨x,H1,I1,r,i,ex,hd,q⟩=>?_)
 subst ex
 obtain ⟨t,rfl⟩:=r
 exact wpAny_formatField_int hd ⟨.str (toString i),H1,I1.tok _,(54:),q⟩
theorem N5 (he:PE X e te):PE X (.FormattedValue e 114 none pos) (Rq te):=by
 intro pins s σ H Q I h
 refine PySem.wpAny_FormattedValue_repr (thn (he pins s σ H _ I h) fun u s1 ⟨x,H1,I1,r,y,ex,hd,q⟩=>?_)
 subst ex
 obtain ⟨t,rfl⟩:=r
 refine wpAny_pyReprObj_gives (T:="str") (typeIs_str _ _ _) PySem.F.slot_str_repr PySem.F.entry_str_repr (PySem.F.args_str_repr_1 _) (gives_str_repr y t) ?_ rfl hd
 exact wpAny_formatField_str ⟨.str (reprText y),H1,I1.tok _,(54:),q⟩ ⟨.str (reprText y),H1,(I1.tok _).tok _,(54:),q⟩ hd
theorem Wc (h1:PE X e1 t1) (h2:PE X e2 t2) (h3:PE X e3 t3):PE X (.JoinedStr [e1,e2,e3] pos) (OG t1 t2 t3):=by
 intro pins s σ H Q I h
 refine wpAny_JoinedStr ?_
 have e0:(Str.empty).length=0:=rfl
 refine thn (h1 pins s σ H _ I h) fun u1 s1 ⟨x1,H1,I1,r1,a,ea,la,q1⟩=>?_
 subst ea
 obtain ⟨ta,rfl⟩:=r1
 refine ⟨a,ta,rfl,Q7 (by rw [strLen_append];lia),?_⟩
 refine thn (h2 pins s1 σ H1 _ I1 q1) fun u2 s2 ⟨x2,H2,I2,r2,b,eb,lb,q2⟩=>?_
 subst eb
 obtain ⟨tb,rfl⟩:=r2
 refine ⟨b,tb,rfl,Q7 (by rw [strLen_append,strLen_append];lia),?_⟩
 refine thn (h3 pins s2 σ H2 _ I2 q2) fun u3 s3 ⟨x3,H3,I3,r3,c,ec,lc,q3⟩=>?_
 subst ec
 obtain ⟨tc,rfl⟩:=r3
 refine ⟨c,tc,rfl,Q7 (by rw [strLen_append,strLen_append,strLen_append];lia),Q7 (by rw [strLen_append,strLen_append,strLen_append];lia),?_⟩
 exact ⟨.str (Str.empty ++ a ++ b ++ c),H3,I3.tok _,(54:),q3⟩
theorem GY (h1:PE X e1 t1) (h2:PE X e2 t2):PE X (.JoinedStr [e1,e2] pos) (OJ t1 t2):=by
 intro pins s σ H Q I h
 refine wpAny_JoinedStr ?_
 have e0:(Str.empty).length=0:=rfl
 refine thn (h1 pins s σ H _ I h) fun u1 s1 ⟨x1,H1,I1,r1,a,ea,la,q1⟩=>?_
 subst ea
 obtain ⟨ta,rfl⟩:=r1
 refine ⟨a,ta,rfl,Q7 (by rw [strLen_append];lia),?_⟩
 refine thn (h2 pins s1 σ H1 _ I1 q1) fun u2 s2 ⟨x2,H2,I2,r2,b,eb,lb,q2⟩=>?_
 subst eb
 obtain ⟨tb,rfl⟩:=r2
 refine ⟨b,tb,rfl,Q7 (by rw [strLen_append,strLen_append];lia),Q7 (by rw [strLen_append,strLen_append];lia),?_⟩
 exact ⟨.str (Str.empty ++ a ++ b),H2,I2.tok _,(54:),q2⟩
end
end L2
namespace L2
open PySem PySem.Spec PyProof.Rows
def ExcO (a:Addr) (cls:Value):HO:=.ext fun h=>∃ ob,h.get? a=some ob∧ob.cls=cls
section
variable {X:Cx} {pins:List (9:)} {σ:St} {H H':Hp} {s s':Shared} {a:Addr}
theorem Inv.track {o:HO} (I:Inv X pins σ H s) (hn:H a=none) (h0:∀ ob,X.s₀.heap.get? a≠some ob) (hL:a≠X.env.locals) (hc:∀ x c,X.env.cells.lookup x=some c→c≠a) (hp:∀ p ∈ X.pn ++ pins,p.1≠a) (ok:ObjOk X.prog X.w (upd H a o) s.heap a o):Inv X pins σ (upd H a o) s:=by
 have k:∀ b u,H b=some u→upd H a o b=some u:=fun b u e=>by rw [Qg (Qi e hn)];exact e
 refine ⟨I.ok,I.os,I.bare,⟨I.base.keep,I.base.slot,fun b ob e n hx=>?_,I.base.there,fun b xs e=>k _ _ (I.base.tups b xs e),fun b ob u e=>k _ _ (I.base.frzs b ob u e),fun b ps e=>?_⟩,I.loc,I.cell,?_,fun x c e=>?_,fun p hp'=>?_,fun b u e=>?_,I.len⟩
 ·rw [Qg (fun z=>by rw [z] at e;exact h0 ob e)];exact I.base.free b ob e n hx
 ·obtain ⟨more,e1⟩:=I.base.tbls b ps e
  exact ⟨more,k _ _ e1⟩
 ·rw [Qg (Ne.symm hL)];exact I.free
 ·rw [Qg (hc x c e)];exact I.freeC x c e
 ·obtain ⟨q1,q2,q3⟩:=I.pin p hp'
  exact ⟨q1,by rw [Qg (hp p hp')];exact q2,q3⟩
 ·by_cases z:b=a
  ·subst z
   rw [Qb] at e
   cases e
   exact ok
  ·rw [Qg z] at e
   exact (I.hok b u e).stay (fun _ _ _ r=>r) (fun c r=>k _ _ r) fun c xs r=>k _ _ r
theorem Uq {M:Model} {A:Around} {E:Value→Shared→Prop} {i:Nat} {n:Str} {pos:Pos} {Q:Unit→Shared→Prop} (I:Inv X pins σ H s) (hN:X.N.Nodup) (hi:X.N[i]?=some n) (hk:X.env.scope.names.lookup n=some .local)
 (h:∀ s',Inv X pins (σ.set i none) H s'→Q () s'):wpAny M A (do bindName X.env n .none;unbindBehindTheSuite X.env n pos) Q E s:=by
 obtain ⟨m,hn,hl⟩:=id I.loc
 have hcls:(X.env.scope.kind == .class || (X.env.scope.kind == .module && X.env.locals != X.env.globals))=false:=by rw [I.ok.kind];rfl
 have hiσ:i < σ.length:=by rw [I.len];exact (List.getElem?_eq_some_iff.mp hi).1
 have cne:=I.cne
 refine wpAny_nameGoes_keeps hk hn hcls fun h' v hn' hs=>?_
 obtain ⟨oL,_,_,hoL,_⟩:=id hn
 have tracked:HOk X.prog X.w H h':=fun b ob e=>by
  refine (I.hok b ob e).stay (fun c w' hc q=>(hs.2 c ?_).trans q) (fun _ q=>q) fun _ _ q=>q
  rintro rfl
  rcases hc with rfl | hc
  ·rw [I.free] at e;cases e
  ·rw [I.free] at hc;cases hc
 have neL:∀ b o,X.s₀.heap.get? b=some o→b≠X.env.locals:=fun b o e=>Nat.ne_of_lt (Nat.lt_of_lt_of_le (58:) I.ok.above)
 refine h _ ⟨I.ok,I.os,I.bare,⟨fun b o e n hb hx=>(hs.2 b (neL b o e)).trans (I.base.keep b o e n hb hx),fun b o e n hb hx=>?_,I.base.free,fun b o e hx=>?_,I.base.tups,I.base.frzs,I.base.tbls⟩,⟨_,hn',fun j y v' e1 e2 e3=>?_⟩,fun y c e=>?_,I.free,I.freeC,fun p hp=>?_,tracked,by simpa using I.len⟩
 ·obtain ⟨sl,e1⟩:=I.base.slot b o e n hb hx
  exact ⟨sl,(hs.2 b (neL b o e)).trans e1⟩
 ·obtain ⟨o',e1⟩:=I.base.there b o e hx
  exact ⟨o',(hs.2 b (neL b o e)).trans e1⟩
 ·by_cases hj:j=i
  ·subst hj
   rw [List.getElem?_set_self hiσ] at e2
   cases e2
  ·rw [List.getElem?_set_ne (Ne.symm hj)] at e2
   obtain ⟨u',r',q⟩:=hl j y v' e1 e2 e3
   refine ⟨u',r',?_⟩
   rcases q with ⟨k,e⟩ | ⟨k,c,e,z⟩
   ·refine .inl ⟨k,?_⟩
    have:y≠n:=fun e=>hj (UX hN e1 (e ▸ hi))
    simp [this,e]
   ·exact .inr ⟨k,c,e,z.sameBut hs (cne y c e)⟩
 ·obtain ⟨w',z⟩:=I.cell y c e
  exact ⟨w',z.sameBut hs (cne y c e)⟩
 ·obtain ⟨e,n,ne,nf,d⟩:=I.pin p hp
  exact ⟨(hs.2 p.1 ne).trans e,n,ne,nf,d⟩
end
def Ends.gone (D:Ends) (i:Nat):Ends:={ nx:=fun σ H=>D.nx (σ.set i none) H,ct:=fun σ H=>D.ct (σ.set i none) H,bk:=fun σ H=>D.bk (σ.set i none) H,rt:=D.rt }
section
variable {X:Cx}
end
end L2
namespace K25
open PySem L2 TM TT K9 K11
abbrev eR:Expr:=G7 (MZ Zm) 3
abbrev qR:Str:=(PyProof.Rows.envOfC "turned_by" (defScope Zm) 0 0 .none).qual ++ "<lambda>"
def opR (l:Lab) (mk:Int) (xs:List (Tree Str)):Tree Str:=match l with
 | .put n k a=>.node n (if k=true then a + mk else a) xs
 | .call _ _=>.node (S []) 0 []
def RT (K:PySem.W.Frag) (H:Hp) (v:V) (t:Tree Str):Prop:=TrV K H v t
theorem Ow {K:PySem.W.Frag}:Rep K (RT K):=fun _ _ _ _ k h=>TrV.mono k h
theorem GT {K:PySem.W.Frag} {H:Hp}:∀ {ys:List V} {xs:List (Tree Str)},RAll (RT K) H ys xs→TrAll K H ys xs
 | _,_,.nil=>.nil
 | _,_,.cons h t=>.cons h (GT t)
structure Tb3 (T1 T2 T3:Addr) (H:Hp):Prop where
 m:TbS H T1 (Zy eM) qM
 t:TbS H T2 (Zy eT) qT
 r:TbS H T3 (Zy eR) qR
structure Ne3 (T1 T2 T3:Addr):Prop where
 a:T1≠T2
 b:T1≠T3
 c:T2≠T3
def SX3 (T1 T2 T3:Addr) (H H':Hp):Prop:=∀ b u,b≠T1→b≠T2→b≠T3→H b=some u→H' b=some u
theorem SX3.of {T1 T2 T3:Addr} {H H':Hp} (g:Same H H'):SX3 T1 T2 T3 H H':=fun b u _ _ _ e=>g b u e
theorem SX3.trans {T1 T2 T3:Addr} {H H1 H2:Hp} (a:SX3 T1 T2 T3 H H1) (b:SX3 T1 T2 T3 H1 H2):SX3 T1 T2 T3 H H2:=fun c u n m l e=>b c u n m l (a c u n m l e)
theorem Tb3.same {T1 T2 T3:Addr} {H H':Hp} (g:Same H H') (h:Tb3 T1 T2 T3 H):Tb3 T1 T2 T3 H':=⟨h.m.same g,h.t.same g,h.r.same g⟩
theorem Tb3.mo {K:PySem.W.Frag} {T1 T2 T3:Addr} {H H':Hp} (h:Tb3 T1 T2 T3 H) (g:SX3 T1 T2 T3 H H'):Mo K H H':=by
 obtain ⟨p1,h1⟩:=h.m.at
 obtain ⟨p2,h2⟩:=h.t.at
 obtain ⟨p3,h3⟩:=h.r.at
 have go:∀ b u,H b=some u→(∀ ps,u≠.tbl ps)→H' b=some u:=fun b u e n=>g b u (QS e h1 (n p1)) (QS e h2 (n p2)) (QS e h3 (n p3)) e
 constructor
 ·intro a xs h
  rcases h with (h | ⟨o,h⟩) | h
  ·exact .inl (.inl (go _ _ h fun _ z=>nomatch z))
  ·exact .inl (.inr ⟨o,go _ _ h fun _ z=>nomatch z⟩)
  ·exact .inr h
 ·intro a xs h
  rcases h with (h | ⟨o,h⟩) | h
  ·exact .inl (.inl (go _ _ h fun _ z=>nomatch z))
  ·exact .inl (.inr ⟨o,go _ _ h fun _ z=>nomatch z⟩)
  ·exact .inr h
theorem Tb3.byM {T1 T2 T3:Addr} {H H':Hp} (ne:Ne3 T1 T2 T3) (h:Tb3 T1 T2 T3 H) (g:SameX T1 H H') (k:TbS H' T1 (Zy eM) qM):Tb3 T1 T2 T3 H'∧SX3 T1 T2 T3 H H':=by
 obtain ⟨p1,h1⟩:=h.m.at
 exact ⟨⟨k,TbS.sameX h1 (Ne.symm ne.a) g h.t,TbS.sameX h1 (Ne.symm ne.b) g h.r⟩,fun b u n _ _ e=>g b u n e⟩
theorem Tb3.byT {T1 T2 T3:Addr} {H H':Hp} (ne:Ne3 T1 T2 T3) (h:Tb3 T1 T2 T3 H) (g:SameX T2 H H') (k:TbS H' T2 (Zy eT) qT):Tb3 T1 T2 T3 H'∧SX3 T1 T2 T3 H H':=by
 obtain ⟨p2,h2⟩:=h.t.at
 exact ⟨⟨TbS.sameX h2 ne.a g h.m,k,TbS.sameX h2 (Ne.symm ne.c) g h.r⟩,fun b u _ n _ e=>g b u n e⟩
theorem Tb3.byR {T1 T2 T3:Addr} {H H':Hp} (ne:Ne3 T1 T2 T3) (h:Tb3 T1 T2 T3 H) (g:SameX T3 H H') (k:TbS H' T3 (Zy eR) qR):Tb3 T1 T2 T3 H'∧SX3 T1 T2 T3 H H':=by
 obtain ⟨p3,h3⟩:=h.r.at
 exact ⟨⟨TbS.sameX h3 ne.b g h.m,TbS.sameX h3 ne.c g h.t,k⟩,fun b u _ _ n e=>g b u n e⟩
structure Ask (K:PySem.W.Frag) (H:Hp) (tu wd lm:Addr) (sv:V) (mo:List MdT) (T:Tu) (rv:V) (t:Tree Str):Prop where
 at':TurnAt K H tu wd lm sv mo T
 ok:TurnOk mo T
 bd:TBd T
 l10:mo.length≤10
 tr:TrV K H rv t
 lv:TM.lv t≤40
theorem Ask.mo {K:PySem.W.Frag} {H H':Hp} {tu wd lm:Addr} {sv:V} {mo:List MdT} {T:Tu} {rv:V} {t:Tree Str} (g:Mo K H H') (h:Ask K H tu wd lm sv mo T rv t):Ask K H' tu wd lm sv mo T rv t:=⟨g.turn h.at',h.ok,h.bd,h.l10,h.tr.mono g.t,h.lv⟩
def Vh (K:PySem.W.Frag) (C T1 T2 T3:Addr):Sp:=fun vs H Q E=>∃ (tu wd lm:Addr) (sv:V) (mo:List MdT) (T:Tu) (v:V) (u:Tm) (rv:V) (t:Tree Str),vs=[.ref tu,v,rv]∧Ask K H tu wd lm sv mo T rv t∧TmV K H v u∧lv u≤8∧sz u≤100∧St T (u,upT t)∧Tb3 T1 T2 T3 H ∧
 (Zu opM 0 T u (upT t)≤400∧Zu opT 0 T u (upT t)≤60→∀ (v':V) (H':Hp),SX3 T1 T2 T3 H H'→Tb3 T1 T2 T3 H'→TrV K H' v' (Zu opR (.node (S []) 0 []) T u (upT t))→Q v' H') ∧
 (¬ (Zu opM 0 T u (upT t)≤400∧Zu opT 0 T u (upT t)≤60)→∀ H':Hp,SX3 T1 T2 T3 H H'→Tb3 T1 T2 T3 H'→E (.ref C) none H')
section
variable {P:Program} {w:World} {K:PySem.W.Frag} {mg:Str→Option Value} {base:Heap} {f:Addr} {fd:FuncData}
theorem Sk:FnScope ["put", "mark", "parts"] ["put", "mark", "parts"] (Q1 eR):=(1:)
theorem Lq (G:Gm mg) (RP:Fn P w K mg base 1 "mark_put" ["term", "mark"] (NM K)):W0 P w K mg base 2 eR (Mh K (RT K) opR):=by
 refine Xo Sk (8:) (fun qual pm c ctv us h=>?_) (fun qual f c A outer s H vs Q E hr h=>?_)
 ·obtain ⟨v,u,mk,lp,ys,xs,rfl,_⟩:=h
  rfl
 ·obtain ⟨a,b,d,rfl⟩:=O5 h
  rfl
 ·obtain ⟨v,u,mk,lp,ys,xs,rfl,hu,hc,hl,hx,hxl,q⟩:=h
  refine ⟨_,(Qz (Qa (25:) (Qa (Qq RP hr (Qa (pv 0) (56:))) (Qa (Qx QN rfl G.tup PyProof.Rows.boot_tuple (Qa (pv 2) Qc)) Qc)))),?_⟩
  rcases ZQ hu with ⟨a,m,b,rfl,rfl,h1⟩ | ⟨a,b,bs,nm,k,ad,rfl,et,h1,h2,h3,h4⟩
  ·cases hc
  have hxa:=GT hx
  refine ⟨_,rfl,a,_,1,_,rfl,rfl,h1,rfl,_,rfl,_,rfl,.ref a,nm,k,ad,mk,u.bs,rfl,et ▸ hu,?_⟩
  refine ⟨_,rfl,lp,_,rfl,.inl ⟨SqL.of hl,fun p hp=>?_⟩⟩
  have g1:=Qf hp (.tup ys)
  refine ⟨(21:),fun p2 hp2=>?_⟩
  have g2:=Qf hp2 (.tup [.str nm,.int (if k=true then ad + mk else ad),.ref p])
  refine q _ _ (g1.trans g2) ?_
  have hlab:lab u=.put nm k ad:=by rw [et];rfl
  rw [hlab]
  exact TrV.mk (SqT.of Qb) (g2.seqT (SqT.of Qb)) (hxa.mono fun _ _ h=>g2.seqT (g1.seqT h)) (by rw [hxa.length];lia)
theorem Rx:FnScope ["turning", "term", "tree"] ["turning", "term", "tree"] (defScope Zm):=(1:)
theorem OL {c C T1 T2 T3:Addr} {newId Bn inN:String} {bmN:List Value} {tk1 tk2:Tok} (F:Fun K "turned_by" "turned_by" Zm f fd) (hn:PySem.W.nsIn K mainGlobals "turned_by" = some (some (.ref f))) (hT:PySem.W.tabIn K "turned_by" = some (c,T3)) (hC:PySem.W.codeHdIn K c T3=true) (hB:U1 mg base)
 (h4:mg "MOST_NAMES" = some (.int 400 tk1)) (h6:mg "MOST_LEVELS" = some (.int 60 tk2)) (hm:mg "TooGreat" = some (.ref C)) (hq:PySem.W.excIn K C Wm newId=true) (Fn':ExcBaseFacts Bn newId inN bmN) (hBn:Wm.contains (.type Bn)=true) (ne:Ne3 T1 T2 T3)
 (RM:Fn P w K mg base 55 "many_by" ["turning", "term", "tree"] (Ws K T1 eM qM opM)) (RT':Fn P w K mg base 55 "tall_by" ["turning", "term", "tree"] (Ws K T2 eT qT opT)) (RO:Fn P w K mg base 54 "outcome" ["turning", "term", "tree", "make"] (U8 K eR (RT K) opR (.node (S []) 0 []))) :
 FnOk P w K mg base (CX1 P w) 56 f fd ["turning", "term", "tree"] (Vh K C T1 T2 T3):=by
 refine Fun.okXC F hn hT Rx (8:) (fun A outer s H vs Q E hr h=>?_)
 ·obtain ⟨tu,wd,lm,sv,mo,T,v,u,rv,t,rfl,_⟩:=h
  rfl
 obtain ⟨tu,wd,lm,sv,mo,T,v,u,rv,t,rfl,hA,hv,hlu,hsu,hst,htb,q1,q2⟩:=h
 refine ⟨_,(Qe (QL (Qw VF (Qq RM hr (Qa (pv 0) (Qa (pv 1) (Qa (pv 2) Qc)))) (Yt (v:=.int 400) rfl h4 (54:)) (QA _)) (Qh (Je hm hq Fn' hBn (Qa (Wc Q5 (Vu (Yt (v:=.int 400) rfl h4 (54:))) Q5) Qc))) Qu)
  (Qe (QL (Qw VF (Qq RT' hr (Qa (pv 0) (Qa (pv 1) (Qa (pv 2) Qc)))) (Yt (v:=.int 60) rfl h6 (54:)) (QA _)) (Qh (Je hm hq Fn' hBn (Qa (Wc Q5 (Vu (Yt (v:=.int 60) rfl h6 (54:))) Q5) Qc))) Qu)
  (Qh (Qp (Qq RO hr (Qa (pv 0) (Qa (pv 1) (Qa (pv 2) (Qa (W5 (c:=c) (T:=T3) rfl hC hB) Qc))))))))),?_⟩
 refine ⟨_,rfl,_,rfl,_,rfl,tu,wd,lm,sv,mo,T,v,u,rv,t,rfl,hA.at',hA.ok,hA.bd,hA.l10,hv,hlu,hsu,hA.tr,hA.lv,hst,htb.m,fun H1 g1 k1=>?_⟩
 obtain ⟨tb1,x1⟩:=htb.byM ne g1 k1
 have m1:Mo K H H1:=htb.mo x1
 refine ⟨_,_,rfl,rfl,_,rfl,Zt (fun c=>?_) (fun c=>?_)⟩
 ·have c':((Zu opM 0 T u (upT t):Nat):Int) > 400:=of_decide_eq_true c
  exact ⟨_,rfl,by decide +kernel,400,rfl,by decide +kernel,_,rfl,by decide +kernel,_,rfl,by decide +kernel,(45:),q2 (fun z=>by lia) H1 x1 tb1⟩
 have c':¬ ((Zu opM 0 T u (upT t):Nat):Int) > 400:=fun z=>c (decide_eq_true z)
 have hA1:=hA.mo m1
 refine ⟨_,rfl,_,rfl,_,rfl,tu,wd,lm,sv,mo,T,v,u,rv,t,rfl,hA1.at',hA1.ok,hA1.bd,hA1.l10,hv.mono m1.t,hlu,hsu,hA1.tr,hA1.lv,hst,tb1.t,fun H2 g2 k2=>?_⟩
 obtain ⟨tb2,x2⟩:=tb1.byT ne g2 k2
 have m2:Mo K H1 H2:=tb1.mo x2
 have hA2:=hA1.mo m2
 refine ⟨_,_,rfl,rfl,_,rfl,Zt (fun d=>?_) (fun d=>?_)⟩
 ·have d':((Zu opT 0 T u (upT t):Nat):Int) > 60:=of_decide_eq_true d
  exact ⟨_,rfl,by decide +kernel,60,rfl,by decide +kernel,_,rfl,by decide +kernel,_,rfl,by decide +kernel,(45:),q2 (fun z=>by lia) H2 (x1.trans x2) tb2⟩
 have d':¬ ((Zu opT 0 T u (upT t):Nat):Int) > 60:=fun z=>d (decide_eq_true z)
 refine ⟨_,rfl,_,rfl,_,rfl,tb2.r,fun fm H3 g3 _ hL k3=>?_⟩
 obtain ⟨tb3,x3⟩:=tb2.byR ne g3 k3
 have m3:Mo K H2 H3:=tb2.mo x3
 have hA3:=hA2.mo m3
 exact ⟨tu,wd,lm,sv,mo,T,v,u,rv,t,fm,rfl,hA3.at',hA3.ok,hA3.bd,hA3.l10,((hv.mono m1.t).mono m2.t).mono m3.t,hlu,hsu,hA3.tr,hA3.lv,hst,hL,fun v' H4 g4 hv'=>q1 ⟨by lia,by lia⟩ v' H4 (x1.trans (x2.trans (x3.trans (SX3.of g4)))) (tb3.same g4) hv'⟩
end
end K25
namespace K25
open PySem L2 TM TT K9 K11
def WA (K:PySem.W.Frag) (C:Addr):Sp:=fun vs H Q E=>∃ (w:Addr) (kind:Str) (v:V) (t:Tree Str) (ks:List KdT),vs=[.ref w,.str kind,v]∧WoodAt K H w ks∧WoodOk ks∧TrV K H v t∧lv t≤40∧(reprText kind).length≤1000 ∧
 (isT (QD ks) t kind=true→∀ H':Hp,Same H H'→Q .non H')∧(isT (QD ks) t kind=false→∀ H':Hp,Same H H'→E (.ref C) none H')
def JI (K:PySem.W.Frag) (C:Addr):Sp:=fun vs H Q E=>∃ (w:Addr) (v:V) (t:Tree Str) (ks:List KdT) (k0:KdT),vs=[.ref w,v]∧WoodAt K H w ks∧WoodOk ks∧ks[0]?=some k0∧TrV K H v t∧lv t≤40∧(reprText k0.2.1).length≤1000 ∧
 (isT (QD ks) t k0.2.1=true→∀ H':Hp,Same H H'→Q .non H')∧(isT (QD ks) t k0.2.1=false→∀ H':Hp,Same H H'→E (.ref C) none H')
abbrev L8 (T:Tu) (u:Tm) (t:Tree Str):Prop:=Zu opM 0 T u (upT t)≤400∧Zu opT 0 T u (upT t)≤60
abbrev OC (T:Tu) (u:Tm) (t:Tree Str):Tree Str:=Zu opR (.node (S []) 0 []) T u (upT t)
def Pj (K:PySem.W.Frag) (CN CG T1 T2 T3:Addr):Sp:=fun vs H Q E=>∃ (tu wd lm:Addr) (sv:V) (mo:List MdT) (T:Tu) (rv:V) (t:Tree Str),vs=[.ref tu,rv]∧Ask K H tu wd lm sv mo T rv t∧lv T.start≤8∧sz T.start≤100∧(reprText T.k0).length≤1000∧Tb3 T1 T2 T3 H ∧
 (isT (QD T.ks) t T.k0=false→∀ H':Hp,SX3 T1 T2 T3 H H'→Tb3 T1 T2 T3 H'→E (.ref CN) none H') ∧
 (isT (QD T.ks) t T.k0=true→L8 T T.start t→∀ (v':V) (H':Hp),SX3 T1 T2 T3 H H'→Tb3 T1 T2 T3 H'→TrV K H' v' (OC T T.start t)→Q v' H') ∧
 (isT (QD T.ks) t T.k0=true→¬ L8 T T.start t→∀ H':Hp,SX3 T1 T2 T3 H H'→Tb3 T1 T2 T3 H'→E (.ref CG) none H')
def WO (K:PySem.W.Frag) (CN CG T1 T2 T3:Addr):Sp:=fun vs H Q E=>∃ (tu wd lm:Addr) (sv:V) (mo:List MdT) (T:Tu) (rv:V) (t:Tree Str) (m:Nat) (md:MdT),vs=[.ref tu,.int (m:Int),rv]∧Ask K H tu wd lm sv mo T rv t∧mo[m]?=some md∧(reprText md.2.1).length≤1000∧Tb3 T1 T2 T3 H ∧
 (isT (QD T.ks) t md.2.1=false→∀ H':Hp,SX3 T1 T2 T3 H H'→Tb3 T1 T2 T3 H'→E (.ref CN) none H') ∧
 (isT (QD T.ks) t md.2.1=true→L8 T (ZB (m:Int) 0) t→∀ (v':V) (H':Hp),SX3 T1 T2 T3 H H'→Tb3 T1 T2 T3 H'→TrV K H' v' (OC T (ZB (m:Int) 0) t)→Q v' H') ∧
 (isT (QD T.ks) t md.2.1=true→¬ L8 T (ZB (m:Int) 0) t→∀ H':Hp,SX3 T1 T2 T3 H H'→Tb3 T1 T2 T3 H'→E (.ref CG) none H')
section
variable {P:Program} {w:World} {K:PySem.W.Frag} {mg:Str→Option Value} {base:Heap} {f:Addr} {fd:FuncData}
theorem Pt {C:Addr} {newId Bn inN:String} {bmN:List Value} (F:Fun K "need_of" "need_of" Ur f fd) (hm:mg "NoTree" = some (.ref C)) (hq:PySem.W.excIn K C Wm newId=true) (Fn':ExcBaseFacts Bn newId inN bmN) (hBn:Wm.contains (.type Bn)=true) (RI:Fn P w K mg base 42 "is_of" ["wood", "kind", "tree"] (Z6 K 40)):FnOk P w K mg base (CX1 P w) 43 f fd ["wood", "kind", "tree"] (WA K C):=by
 refine Fun.okX F G2 (8:) (4:)
 ·obtain ⟨w,kind,v,t,ks,rfl,_⟩:=h
  rfl
 obtain ⟨wd,kind,v,t,ks,rfl,hW,hO,ht,hlv,hrp,q1,q2⟩:=h
 refine ⟨_,(Qh (QL (J4 (ZW (Qq RI hr (Qa (pv 0) (Qa (pv 1) (Qa (pv 2) Qc)))))) (Qh (Je hm hq Fn' hBn (Qa (GY Q5 (N5 (pv 1))) Qc))) Qu)),?_⟩
 refine ⟨_,rfl,_,rfl,_,rfl,wd,kind,v,t,ks,rfl,hW,hO,ht,hlv,fun H1 g1=>⟨_,rfl,?_⟩⟩
 cases hb:isT (QD ks) t kind with
 | true=>exact ZE (q1 hb H1 g1)
 | false=>exact QZ ⟨_,rfl,by decide +kernel,_,rfl,kind,rfl,Q7 (10:),_,rfl,hrp,(45:),q2 hb H1 g1⟩
theorem OM {C:Addr} (F:Fun K "need_in" "need_in" UE f fd) (RN:FnX P w K mg base 43 "need_of" ["wood", "kind", "tree"] (WA K C)):FnOk P w K mg base (CX1 P w) 44 f fd ["wood", "tree"] (JI K C):=by
 refine Fun.okX F G0 (8:) (4:)
 ·obtain ⟨w,v,t,ks,k0,rfl,_⟩:=h
  rfl
 obtain ⟨wd,v,t,ks,k0,rfl,hW,hO,hk0,ht,hlv,hrp,q1,q2⟩:=h
 refine ⟨_,(Qh (QI (Q3 (EE:=fun _=>E) RN hr (Zn fun _ _ h=>h) (Qa (pv 0) (Qa (Qj Qk (Qj Qm (pv 0) Qd (2:)) Qd (2:)) (56:)))))),?_⟩
 have hat:atI (ks.map fun k=>V.ref k.1) 0=some (.ref k0.1):=Qv (j:=0) (by rw [List.getElem?_map,hk0];rfl)
 exact ⟨_,rfl,_,rfl,wd,_,0,_,rfl,rfl,hW.1,hat,k0.1,_,0,_,rfl,rfl,(hW.2 k0 (List.mem_of_getElem? hk0)).1,rfl,_,rfl,wd,k0.2.1,v,t,ks,rfl,hW,hO,ht,hlv,hrp,q1,q2⟩
theorem Sb:FnScope ["turning", "tree"] ["turning", "tree"] (defScope Us):=(1:)
theorem Pb:FnScope ["turning", "mode", "tree"] ["turning", "mode", "tree"] (defScope Yg):=(1:)
theorem P7 {CN CG T1 T2 T3:Addr} (F:Fun K "turned" "turned" Us f fd) (RN:FnX P w K mg base 44 "need_in" ["wood", "tree"] (JI K CN)) (RB:FnX P w K mg base 56 "turned_by" ["turning", "term", "tree"] (Vh K CG T1 T2 T3)):FnOk P w K mg base (CX1 P w) 57 f fd ["turning", "tree"] (Pj K CN CG T1 T2 T3):=by
 refine Fun.okX F Sb (8:) (4:)
 ·obtain ⟨tu,wd,lm,sv,mo,T,rv,t,rfl,_⟩:=h
  rfl
 obtain ⟨tu,wd,lm,sv,mo,T,rv,t,rfl,hA,hls,hss,hrp,htb,q1,q2,q3⟩:=h
 refine ⟨_,(Qe (QI (Q3 (EE:=fun _=>E) RN hr (Zn fun _ _ h=>h) (Qa (25:) (56:))))
  (Qh (Qp (Q3 (EE:=fun _=>E) RB hr (Zn fun _ _ h=>h) (Qa (pv 0) (Qa (25:) (56:))))))),?_⟩
 obtain ⟨k0,hk0,ek0⟩:=hA.ok.k0
 refine ⟨_,rfl,tu,_,0,_,rfl,rfl,hA.at'.tu,rfl,_,rfl,wd,rv,t,T.ks,k0,rfl,hA.at'.w,hA.ok.wo,hk0,hA.tr,hA.lv,by rw [ek0];exact hrp,fun his H1 g1=>?_,fun his H1 g1=>q1 (by rw [← ek0];exact his) H1 (SX3.of g1) (htb.same g1)⟩
 rw [ek0] at his
 have hA1:=hA.mo (Mo.of g1)
 refine ⟨_,rfl,_,rfl,tu,_,1,_,rfl,rfl,g1.seqT hA.at'.tu,rfl,_,rfl,tu,wd,lm,sv,mo,T,sv,T.start,rv,t,rfl,hA1,hA1.at'.s,hls,hss,St.start hA.ok.ok his,htb.same g1,fun hf v' H2 g2 tb2 hv'=>q2 his hf v' H2 ((SX3.of g1).trans g2) tb2 hv',fun hf H2 g2 tb2=>q3 his hf H2 ((SX3.of g1).trans g2) tb2⟩
theorem NY {CN CG T1 T2 T3:Addr} (F:Fun K "turned_in" "turned_in" Yg f fd) (RN:FnX P w K mg base 43 "need_of" ["wood", "kind", "tree"] (WA K CN)) (RB:FnX P w K mg base 56 "turned_by" ["turning", "term", "tree"] (Vh K CG T1 T2 T3)):FnOk P w K mg base (CX1 P w) 57 f fd ["turning", "mode", "tree"] (WO K CN CG T1 T2 T3):=by
 refine Fun.okX F Pb (8:) (4:)
 ·obtain ⟨tu,wd,lm,sv,mo,T,rv,t,m,md,rfl,_⟩:=h
  rfl
 obtain ⟨tu,wd,lm,sv,mo,T,rv,t,m,md,rfl,hA,hmd,hrp,htb,q1,q2,q3⟩:=h
 refine ⟨_,(Qe (QI (Q3 (EE:=fun _=>E) RN hr (Zn fun _ _ h=>h) (Qa (25:) (Qa (Qj Qk (Qj Qm (25:) (pv 1) (2:)) Qd (2:)) (Qa (pv 2) Qc)))))
  (Qh (Qp (Q3 (EE:=fun _=>E) RB hr (Zn fun _ _ h=>h) (Qa (pv 0) (Qa ((Qz (Qa (Q5) (Qa (pv 1) (Qa (Qd) Qc))))) (Qa (pv 2) Qc))))))),?_⟩
 have hmm:=List.mem_of_getElem? hmd
 have hat:atI (mo.map fun m=>V.ref m.1) (m:Int)=some (.ref md.1):=Qv (by rw [List.getElem?_map,hmd];rfl)
 have hTm:T.ms[m]?=some md.md:=by rw [← hA.ok.me,List.getElem?_map,hmd];rfl
 refine ⟨_,rfl,tu,_,0,_,rfl,rfl,hA.at'.tu,rfl,_,rfl,tu,_,2,_,rfl,rfl,hA.at'.tu,rfl,_,rfl,lm,_,_,_,rfl,rfl,hA.at'.m.1,hat,md.1,_,0,_,rfl,rfl,(hA.at'.m.2 md hmm).1,rfl,_,rfl,wd,md.2.1,rv,t,T.ks,rfl,hA.at'.w,hA.ok.wo,hA.tr,hA.lv,hrp,fun his H1 g1=>?_,fun his H1 g1=>q1 his H1 (SX3.of g1) (htb.same g1)⟩
 refine ⟨_,rfl,_,rfl,(21:),fun p hp=>⟨_,rfl,?_⟩⟩
 have k1:=Qf hp (.tup [.str YX,.int (m:Int),.int 0])
 have g2:=g1.trans k1
 have hlf:TmV K (upd H1 p (.tup [.str YX,.int (m:Int),.int 0])) (.ref p) (ZB (m:Int) 0):=.call (SqT.of Qb)
 have hSt:St T (ZB (m:Int) 0,upT t):=St.mode (10:) (by rw [Int.toNat_natCast];exact hTm) his
 exact ⟨tu,wd,lm,sv,mo,T,.ref p,ZB (m:Int) 0,rv,t,rfl,hA.mo (Mo.of g2),hlf,by simp [ZB,TM.lv,lvs],by simp [ZB,TM.sz,szs],hSt,htb.same g2,fun hf v' H3 g3 tb3 hv'=>q2 his hf v' H3 ((SX3.of g2).trans g3) tb3 hv',fun hf H3 g3 tb3=>q3 his hf H3 ((SX3.of g2).trans g3) tb3⟩
end
end K25
namespace K25
open PySem L2 TM TT K9 K11
def Tld (K:PySem.W.Frag) (CN CG T1 T2 T3:Addr) (H:Hp) (b:Bool) (Q:VK) (E:XK):Prop:=Tb3 T1 T2 T3 H∧(b=false→∀ H':Hp,SX3 T1 T2 T3 H H'→Tb3 T1 T2 T3 H'→E (.ref CN) none H') ∧
 (b=true→(∀ (v':V) (H':Hp),SX3 T1 T2 T3 H H'→Tb3 T1 T2 T3 H'→Q v' H')∧∀ H':Hp,SX3 T1 T2 T3 H H'→Tb3 T1 T2 T3 H'→E (.ref CG) none H')
structure Rdy (T:Tu):Prop where
 l:lv T.start≤8
 s:sz T.start≤100
 r:(reprText T.k0).length≤1000
def Gp (K:PySem.W.Frag) (CN CG T1 T2 T3:Addr):Sp:=fun vs H Q E=>∃ (tu wd lm:Addr) (sv:V) (mo:List MdT) (T:Tu) (rv:V) (t:Tree Str),vs=[.ref tu,rv]∧Ask K H tu wd lm sv mo T rv t∧Rdy T∧Tld K CN CG T1 T2 T3 H (isT (QD T.ks) t T.k0) Q E
def PU (K:PySem.W.Frag) (CN CG T1 T2 T3:Addr):Sp:=fun vs H Q E=>∃ (tu wd lm:Addr) (sv:V) (mo:List MdT) (T:Tu) (rv:V) (t:Tree Str) (pl:Addr),vs=[.ref tu,rv,.ref pl]∧SqT K H pl []∧Ask K H tu wd lm sv mo T rv t∧Rdy T∧Tld K CN CG T1 T2 T3 H (isT (QD T.ks) t T.k0) Q E
def Lj (K:PySem.W.Frag) (CN CG T1 T2 T3:Addr):Sp:=fun vs H Q E=>∃ (tu wd lm:Addr) (sv:V) (mo:List MdT) (T:Tu) (rv:V) (t:Tree Str) (m:Nat) (md:MdT) (pl:Addr),vs=[.ref tu,.int (m:Int),rv,.ref pl]∧SqT K H pl []∧Ask K H tu wd lm sv mo T rv t∧mo[m]?=some md∧(reprText md.2.1).length≤1000∧Tld K CN CG T1 T2 T3 H (isT (QD T.ks) t md.2.1) Q E
section
variable {P:Program} {w:World} {K:PySem.W.Frag} {mg:Str→Option Value} {base:Heap} {f:Addr} {fd:FuncData} {CN CG T1 T2 T3:Addr}
theorem Mu (F:Fun K "many" "many" Vw f fd) (ne:Ne3 T1 T2 T3) (RN':FnX P w K mg base 44 "need_in" ["wood", "tree"] (JI K CN)) (RB:Fn P w K mg base 55 "many_by" ["turning", "term", "tree"] (Ws K T1 eM qM opM)):FnOk P w K mg base (CX1 P w) 56 f fd ["turning", "tree"] (Gp K CN CG T1 T2 T3):=by
 refine Fun.okX F Pn (8:) (4:)
 ·obtain ⟨tu,wd,lm,sv,mo,T,rv,t,rfl,_⟩:=h
  rfl
 obtain ⟨tu,wd,lm,sv,mo,T,rv,t,rfl,hA,hR,htb,q1,q2⟩:=h
 refine ⟨_,(Qe (QI (Q3 (EE:=fun _=>E) RN' hr (Zn fun _ _ h=>h) (Qa (25:) (56:))))
  (Qh (Qp (Qq RB hr (Qa (pv 0) (Qa (25:) (56:))))))),?_⟩
 obtain ⟨k0,hk0,ek0⟩:=hA.ok.k0
 refine (26:)
 rw [ek0] at his
 have hA1:=hA.mo (Mo.of g1)
 have tb1:=htb.same g1
 refine ⟨_,rfl,_,rfl,tu,_,1,_,rfl,rfl,g1.seqT hA.at'.tu,rfl,_,rfl,tu,wd,lm,sv,mo,T,sv,T.start,rv,t,rfl,hA1.at',hA1.ok,hA1.bd,hA1.l10,hA1.at'.s,hR.l,hR.s,hA1.tr,hA1.lv,St.start hA.ok.ok his,tb1.m,fun H2 g2 k2=>?_⟩
 obtain ⟨tb2,x2⟩:=tb1.byM ne g2 k2
 exact (q2 his).1 _ H2 ((SX3.of g1).trans x2) tb2
theorem Mw (F:Fun K "tall" "tall" Vx f fd) (ne:Ne3 T1 T2 T3) (RN':FnX P w K mg base 44 "need_in" ["wood", "tree"] (JI K CN)) (RB:Fn P w K mg base 55 "tall_by" ["turning", "term", "tree"] (Ws K T2 eT qT opT)):FnOk P w K mg base (CX1 P w) 56 f fd ["turning", "tree"] (Gp K CN CG T1 T2 T3):=by
 refine Fun.okX F PL (8:) (4:)
 ·obtain ⟨tu,wd,lm,sv,mo,T,rv,t,rfl,_⟩:=h
  rfl
 obtain ⟨tu,wd,lm,sv,mo,T,rv,t,rfl,hA,hR,htb,q1,q2⟩:=h
 refine ⟨_,(Qe (QI (Q3 (EE:=fun _=>E) RN' hr (Zn fun _ _ h=>h) (Qa (25:) (56:))))
  (Qh (Qp (Qq RB hr (Qa (pv 0) (Qa (25:) (56:))))))),?_⟩
 obtain ⟨k0,hk0,ek0⟩:=hA.ok.k0
 refine (26:)
 rw [ek0] at his
 have hA1:=hA.mo (Mo.of g1)
 have tb1:=htb.same g1
 refine ⟨_,rfl,_,rfl,tu,_,1,_,rfl,rfl,g1.seqT hA.at'.tu,rfl,_,rfl,tu,wd,lm,sv,mo,T,sv,T.start,rv,t,rfl,hA1.at',hA1.ok,hA1.bd,hA1.l10,hA1.at'.s,hR.l,hR.s,hA1.tr,hA1.lv,St.start hA.ok.ok his,tb1.t,fun H2 g2 k2=>?_⟩
 obtain ⟨tb2,x2⟩:=tb1.byT ne g2 k2
 exact (q2 his).1 _ H2 ((SX3.of g1).trans x2) tb2
theorem GU (F:Fun K "seen" "seen" VI f fd) (RN':FnX P w K mg base 44 "need_in" ["wood", "tree"] (JI K CN)) (RB:Fn P w K mg base 4 "seen_by" ["turning", "term", "tree", "place"] (YM K)):FnOk P w K mg base (CX1 P w) 56 f fd ["turning", "tree", "place"] (PU K CN CG T1 T2 T3):=by
 refine Fun.okX F OQ (8:) (4:)
 ·obtain ⟨tu,wd,lm,sv,mo,T,rv,t,pl,rfl,_⟩:=h
  rfl
 obtain ⟨tu,wd,lm,sv,mo,T,rv,t,pl,rfl,hpl,hA,hR,htb,q1,q2⟩:=h
 refine ⟨_,(Qe (QI (Q3 (EE:=fun _=>E) RN' hr (Zn fun _ _ h=>h) (Qa (25:) (56:))))
  (Qh (Qp (Qq RB hr (Qa (pv 0) (Qa (25:) (Qa (pv 1) (Qa (pv 2) Qc)))))))),?_⟩
 obtain ⟨k0,hk0,ek0⟩:=hA.ok.k0
 refine (26:)
 rw [ek0] at his
 have hA1:=hA.mo (Mo.of g1)
 exact ⟨_,rfl,_,rfl,tu,_,1,_,rfl,rfl,hA1.at'.tu,rfl,_,rfl,_,rfl,tu,wd,lm,sv,mo,T,sv,rv,T.start,t,pl,[],rfl,hA1.at',hA1.ok,hA1.at'.s,hA1.tr,St.start hA.ok.ok his,hA.lv,g1.seqT hpl,fun e H' g=>(q2 his).1 _ H' (SX3.of (g1.trans g)) (htb.same (g1.trans g)),fun x e p H' g _=>(q2 his).1 _ H' (SX3.of (g1.trans g)) (htb.same (g1.trans g))⟩
theorem WY (F:Fun K "seen_in" "seen_in" Uv f fd) (RN':FnX P w K mg base 43 "need_of" ["wood", "kind", "tree"] (WA K CN)) (RB:Fn P w K mg base 4 "seen_by" ["turning", "term", "tree", "place"] (YM K)):FnOk P w K mg base (CX1 P w) 56 f fd ["turning", "mode", "tree", "place"] (Lj K CN CG T1 T2 T3):=by
 refine Fun.okX F Ll (8:) (4:)
 ·obtain ⟨tu,wd,lm,sv,mo,T,rv,t,m,md,pl,rfl,_⟩:=h
  rfl
 obtain ⟨tu,wd,lm,sv,mo,T,rv,t,m,md,pl,rfl,hpl,hA,hmd,hrp,htb,q1,q2⟩:=h
 refine ⟨_,(Qe (QI (Q3 (EE:=fun _=>E) RN' hr (Zn fun _ _ h=>h) (Qa (25:) (Qa (Qj Qk (Qj Qm (25:) (pv 1) (2:)) Qd (2:)) (Qa (pv 2) Qc)))))
  (Qh (Qp (Qq RB hr (Qa (pv 0) (Qa ((Qz (Qa (Q5) (Qa (pv 1) (Qa (Qd) Qc))))) (Qa (pv 2) (Qa (pv 3) Qc)))))))),?_⟩
 have hmm:=List.mem_of_getElem? hmd
 have hat:atI (mo.map fun m=>V.ref m.1) (m:Int)=some (.ref md.1):=Qv (by rw [List.getElem?_map,hmd];rfl)
 have hTm:T.ms[m]?=some md.md:=by rw [← hA.ok.me,List.getElem?_map,hmd];rfl
 refine ⟨_,rfl,tu,_,0,_,rfl,rfl,hA.at'.tu,rfl,_,rfl,tu,_,2,_,rfl,rfl,hA.at'.tu,rfl,_,rfl,lm,_,_,_,rfl,rfl,hA.at'.m.1,hat,md.1,_,0,_,rfl,rfl,(hA.at'.m.2 md hmm).1,rfl,_,rfl,wd,md.2.1,rv,t,T.ks,rfl,hA.at'.w,hA.ok.wo,hA.tr,hA.lv,hrp,fun his H1 g1=>?_,fun his H1 g1=>q1 his H1 (SX3.of g1) (htb.same g1)⟩
 refine ⟨_,rfl,_,rfl,(21:),fun p hp=>⟨_,rfl,_,rfl,?_⟩⟩
 have g2:=g1.trans (Qf hp (.tup [.str YX,.int (m:Int),.int 0]))
 have hA2:=hA.mo (Mo.of g2)
 have hSt:St T (ZB (m:Int) 0,upT t):=St.mode (10:) (by rw [Int.toNat_natCast];exact hTm) his
 exact ⟨tu,wd,lm,sv,mo,T,.ref p,rv,ZB (m:Int) 0,t,pl,[],rfl,hA2.at',hA2.ok,.call (SqT.of Qb),hA2.tr,hSt,hA.lv,g2.seqT hpl,fun e H' g=>(q2 his).1 _ H' (SX3.of (g2.trans g)) (htb.same (g2.trans g)),fun x e p H' g _=>(q2 his).1 _ H' (SX3.of (g2.trans g)) (htb.same (g2.trans g))⟩
end
end K25
namespace L2
open PySem PySem.Spec PyProof.Rows
def Sa (C1 C2:Addr) (i:Nat) (tb:(St→XK)→TS) (t1 t2:TS):TS:=fun D σ H=>∃ EE:St→XK,tb EE D σ H∧∀ σ' cls H',EE σ' cls none H'→(cls=.ref C1∧∀ a,H' a=none→t1 (D.gone i) (σ'.set i (some (.ref a))) (upd H' a (ExcO a (.ref C1))))∨(cls=.ref C2∧t2 D σ' H')
section
variable {X:Cx}
theorem N6 {x y n:Str} {i:Nat} {C1 C2:Addr} {body suite suite2:List Stmt} {b₀ c₀:Stmt} {tb:(St→XK)→TS} {t1 t2:TS} {np np2 hpos hpos2 pos:Pos} (hm:X.mg x=some (.ref C1)) (hm2:X.mg y=some (.ref C2)) (hq:PySem.W.exmOne X.K (.ref C1) (.ref C1)=some true) (hqf:PySem.W.exmOne X.K (.ref C2) (.ref C1)=some false) (hq2:PySem.W.exmOne X.K (.ref C2) (.ref C2)=some true) (hstk:X.stack=X.env :: X.outer) (hN:X.N.Nodup) (hi:X.N[i]?=some n) (hk:X.env.scope.names.lookup n=some .local)
 (hb:∀ pins EE,PSs (X.tryx pins EE) body (tb EE)) (hs:∀ a,PSs (X.mrk a) (b₀ :: suite) t1) (hs2:∀ a,PSs (X.mrk a) (c₀ :: suite2) t2) (hg:Gl X x:=by rfl) (hg2:Gl X y:=by rfl) (hfr:X.env.frame=some X.env.locals:=by rfl) (hd:(41:)=false:=by decide) (hd2:(y == ("__debug__" : Str))=false:=by decide) (hex:X.ex=[]:=by rfl) :
 PS X (.Try body [.ExceptHandler (some (.Name x np)) (some n) (b₀ :: suite) hpos,.ExceptHandler (some (.Name y np2)) none (c₀ :: suite2) hpos2] [] [] pos) (Sa C1 C2 i tb t1 t2):=by
 intro pins s σ H D I h
 obtain ⟨EE,h1,h2⟩:=h
 refine wpAny_Try_except (wpAny_mono (hb pins EE [] s σ H D (I.toTry EE) h1) (fun fl s1 q=>?_) fun e s1 q=>?_)
 ·have q':=SP.ofTry q
  cases fl with
  | next=>exact wpAny_execs_nil q'
  | brk=>exact q'
  | cont=>exact q'
  | ret u=>exact q'
 ·obtain ⟨p2,σ1,H1,s0,I1,a,cls,H',rfl,F,q⟩:=q
  have hcs:=h2 _ _ _ q
  obtain ⟨B,t,hfl,cov⟩:=F.fly
  have hfr1:s1.heap.FunFrames B (X.pnd pins).stack:=hfl.2.2.1
  obtain ⟨oe,vs,hoe,hoc,hod,_⟩:=hfl.first
  have new:∀ b,(∃ o,s0.heap.get? b=some o)→b≠a:=fun b hb z=>by
   subst z
   by_cases hf:b ∈ frs X.stack
   ·exact UV hfr1 b hf _ hoe _ hod
   ·have:=cov b oe hoe (.inr hb) hf
    rw [hfl.2.1] at this;cases this
  have hHa:H' a=none:=by
   cases hz:H' a with
   | none=>rfl
   | some u =>
    by_cases hf:a ∈ frs X.stack
    ·exact absurd hod (UV hfr1 a hf _ hoe _)
    ·have:=cov a oe hoe (.inl (by rw [hz];intro z;cases z)) hf
     rw [hfl.2.1] at this;cases this
  rw [hstk] at hfl
  refine wpAny_looks_onW (by rw [← hstk];exact I.ok.frames) hfr hfl fun h4 hheld up4=>?_
  refine wpAny_landsW hheld fun h5 hfl5 up5'=>?_
  have up5:=up4.trans up5'
  have J5:=I1.flown F.os F.bare F.un F.hok hfr1 cov hfl5.1 up5
  have K5:Inv X pins σ1 H' { s1 with heap:=h5 }:=J5.ofPnd
  obtain ⟨ob,hob,hobc⟩:=hfl5.there
  have hmk:(X.A.mark (some (.ref a))).frames=X.A.frames:=rfl
  rcases hcs with ⟨rfl,hts⟩ | ⟨rfl,hts⟩
  ·refine wpAny_handleBy_cons (codeAny_handlers_test (ZT (X:=X.mrk a) (K5.toMrk a hmk) hg hm ?_ hd)) (by intro q;cases q)
   have LT:PySem.W.Looks (6:) h5 (typeOf (.ref a)) (.ref C1):=hobc ▸ (PySem.W.Looks.ld hob).andThen .now
   refine (PySem.W.exm_one K5.kIn LT hq).at (codeAny_handlers_suite_as ?_)
   refine lands_againW hfl5 fun h6 hfl6 up6=>?_
   have J6:=I1.flown F.os F.bare F.un F.hok hfr1 cov hfl6.1 (up5.trans up6)
   have K6:Inv X pins σ1 H' { s1 with heap:=h6 }:=J6.ofPnd
   obtain ⟨ob6,hob6,hobc6⟩:=hfl6.there
   have T6:Inv X pins σ1 (upd H' a (ExcO a (.ref C1))) { s1 with heap:=h6 }:=by
    refine K6.track hHa (fun o e=>?_) (fun z=>?_) (fun y c e=>?_) (fun p hp=>?_) ⟨⟨ob6,hob6,hobc6⟩,⟨ob6,hob6⟩,fun g1 g2 ⟨o,e1,e2⟩ k=>⟨o,k _ e1,e2⟩⟩
    ·obtain ⟨o1,e1⟩:=I1.base.there a o e (by show a ∉ X.ex;rw [hex];simp)
     exact new a ⟨o1,e1⟩ rfl
    ·obtain ⟨m,⟨o,_,_,e,_⟩,_⟩:=I1.loc
     exact new _ ⟨o,e⟩ z.symm
    ·obtain ⟨v,o,e1,_⟩:=I1.cell y c e
     exact new c ⟨o,e1⟩
    ·exact new _ ⟨p.2,(I1.pin p (List.mem_append_left _ hp)).1⟩
   refine UI (X:=X.mrk a) (T6.toMrk a hmk) hN hi (.inl hk) (v:=.ref a) (u:=.ref a) rfl (fun s7 K7=>?_) (.inr hk)
   refine wpAny_mono (hs a pins _ _ _ (D.gone i) K7 (hts a hHa)) (fun fl s2 q=>?_) fun _ _ z=>z.elim
   have q':=SP.ofMrk K6.ok q
   cases fl with
   | next=>obtain ⟨σ',H2,I2,q2⟩:=q';exact Uq I2 hN hi hk fun s3 I3=>⟨_,H2,I3,q2⟩
   | brk=>obtain ⟨σ',H2,I2,q2⟩:=q';exact Uq I2 hN hi hk fun s3 I3=>⟨_,H2,I3,q2⟩
   | cont=>obtain ⟨σ',H2,I2,q2⟩:=q';exact Uq I2 hN hi hk fun s3 I3=>⟨_,H2,I3,q2⟩
   | ret u=>obtain ⟨v,σ',H2,I2,r2,q2⟩:=q';exact Uq I2 hN hi hk fun s3 I3=>⟨v,_,H2,I3,r2,q2⟩
  ·have LT:PySem.W.Looks (6:) h5 (typeOf (.ref a)) (.ref C2):=hobc ▸ (PySem.W.Looks.ld hob).andThen .now
   refine wpAny_handleBy_cons (codeAny_handlers_test (ZT (X:=X.mrk a) (K5.toMrk a hmk) hg hm ?_ hd)) (by intro q;cases q)
   refine (PySem.W.exm_one K5.kIn LT hqf).at ?_
   refine wpAny_handleBy_cons (codeAny_handlers_test (ZT (X:=X.mrk a) (K5.toMrk a hmk) hg2 hm2 ?_ hd2)) (by intro q;cases q)
   refine (PySem.W.exm_one K5.kIn LT hq2).at (codeAny_handlers_suite ?_)
   refine lands_againW hfl5 fun h6 hfl6 up6=>?_
   have J6:=I1.flown F.os F.bare F.un F.hok hfr1 cov hfl6.1 (up5.trans up6)
   have K6:Inv X pins σ1 H' { s1 with heap:=h6 }:=J6.ofPnd
   exact wpAny_mono (hs2 a pins _ σ1 H' D (K6.toMrk a hmk) hts) (fun fl s2 q=>SP.ofMrk K6.ok q) fun _ _ z=>z.elim
end
end L2
namespace L2
open PySem PySem.Spec PyProof.Rows PySem.W
theorem NL {K:Frag} {a:Addr} {t c:Value} (e:kitOne K t c=some true):Answers (fun s=>K.In s.heap∧∃ ob,s.heap.get? a=some ob∧ob.cls=t) (.ref a) c true:=by
 intro dep tk prog w A R s hs
 obtain ⟨h0,g,d,tt,os⟩:=s
 obtain ⟨⟨X,ob,hob,hcl⟩,hq⟩:=hs
 have LT:Looks (17:) h0 (typeOf (.ref a)) t:=hcl ▸ (Looks.ld hob).andThen .now
 unfold kitOne at e
 unfold Builtin.«isinstance.nested»
 refine wpAny_bind (LT.at ?_)
 by_cases q:(t == c)=true
 ·rw [if_pos q]
  first
   | ((repeat lk);exact hq tt)
   | exact wpAny_bind (wpAny_rule (hq tt))
   | exact wpAny_bind (wpAny_rule (wpAny_pure (hq tt)))
 ·rw [if_neg q] at e
  rw [if_neg q]
  obtain ⟨hty,his,hsub⟩:=kit_cls (M:=model prog w) X e
  have LI:Looks (17:) h0 (isInstance (.ref a) c) true:=LT.andThen hsub
  refine wpAny_bind (hty.at ?_)
  rw [if_pos (27:)]
  k_delta "plainIsInstance"
  refine wpAny_bind (wpAny_bind (his.at ?_))
  simp only [Bool.not_true,Bool.false_eq_true,if_false]
  refine wpAny_bind (LI.at ?_)
  first
   | exact wpAny_pure (wpAny_pure (hq tt))
   | (simp only [if_true];first | exact wpAny_pure (wpAny_pure (hq tt)) | exact wpAny_pure (hq tt) | exact wpAny_bind (wpAny_pure (wpAny_pure (hq tt))))
def G8:V→Option Value
 | .ref C=>some (.ref C)
 | .ty T=>some (.type T)
 | _=>none
theorem WB {v:V} {u c:Value} (r:RelV v u) (h:G8 v=some c):u=c:=by
 cases v with
 | ref C=>cases h;exact r
 | ty T=>cases h;exact r
 | _=>cases h
abbrev Pu (K:Frag):List V→Hp→VK→Prop:=fun xs H Q=>∃ a t v c,xs=[.ref a,v]∧H a=some (ExcO a t)∧G8 v=some c∧kitOne K t c=some true∧Q (.bl true) H
section
variable {X:Cx}
theorem YF:Zs X (.builtin "isinstance") (Pu X.K):=by
 intro pins s σ H xs us Q I r h
 obtain ⟨a,t,v,c,rfl,ha,hc,e,q⟩:=h
 obtain ⟨u,c',rfl,rx,rc⟩:=LJ r
 cases (show u=Value.ref a from rx)
 cases WB rc hc
 have hob:∃ ob,s.heap.get? a=some ob∧ob.cls=t:=(I.hok a _ ha).1
 exact call_isinstance (S:=fun _ R s=>(X.K.In s.heap∧∃ ob,s.heap.get? a=some ob∧ob.cls=t)∧∀ tk,R (.ok (.ret (.bool true))) { s with toks:=tk })
  (fun prog w A R s hs=>isinstance_outer (NL e 0 _ prog w A R s hs) (43:)) ⟨⟨I.kIn,hob⟩,fun tk=>⟨.bl true,H,I.tok tk,rfl,q⟩⟩
end
end L2
namespace L2
open PySem PySem.Spec PyProof.Rows PySem.W PySem.Calls Builtin Builtin.ObjectAttr Builtin.Getset_descriptor
structure XcK (K:Frag) (D:Addr):Prop where
 ga:findIn K (.ref D) "__getattribute__" = some (some (.builtin "BaseException.__getattribute__"))
 gn:findIn K (.ref D) "__getattr__" = some none
 gc:findIn K (.ref D) "__class__" = some (some (.builtin "object.__class__"))
 sb:mroIn K D (.type "BaseException")=some true
 so:mroIn K D (.type "object")=some true
section
variable {prog:Program} {w:World} {A:Around} {E:Value→Shared→Prop} {K:Frag} {a D:Addr} {h:Heap} {g:Array GenState} {d:Drawn} {t:Nat} {os:OsState}
theorem Pe {R:Result→Shared→Prop} {tp:Value} (X:K.In h) (k:XcK K D) (L0:Looks (17:) h (typeOf (.ref a)) (.ref D)) (q:R (.ok (.ret (.ref D))) ⟨h,g,d,t,os⟩) :
 codeAny (17:) A (.call (.builtin "getset_descriptor.__get__") ⟨[.builtin "object.__class__", .ref a,tp],[]⟩) R ⟨h,g,d,t,os⟩:=by
 have L1:=looks_mroIn (M:=model prog w) X k.so
 refine codeAny_call_builtin KF.slot_gs.plain KF.entry_gs
  (KF.slot_gs.check _ _ _ _ _ _ _ _ KF.type_class (KF.args_gs _ _ _) ?_)
 unfold Builtin.«getset_descriptor.__get__» descrGet;rw [dga_obj];refine wpAny_bind (wpAny_pure ?_)
 unfold descrGetter descrCheckInstance descrNameAndClass isInstance;simp only [KF.owner_class]
 repeat lk
 refine ⟨Code.quiet_builtin _ (0:),codeAny_builtin KF.entry_class ?_⟩
 unfold Builtin.«object.__class__» shownTypeOf;(repeat lk)
 exact q
theorem Lz {tk:Tok} {Q:Fin→Shared→Prop} (X:K.In h) (k:XcK K D) (L0:Looks (17:) h (typeOf (.ref a)) (.ref D)) (q:Q (.done (.ret (.ref D))) ⟨h,g,d,t,os⟩) :
 wpAny (17:) A (Builtin.«object.__getattribute__» ⟨[.ref a,.str "__class__" tk],[]⟩) Q E ⟨h,g,d,t,os⟩:=by
 have LC:=looks_findIn (M:=model prog w) X k.gc
 have hT5:(⟨h,g,d,t,os⟩ : Shared).TypeIs (.builtin "object.__class__") "getset_descriptor" := F.typeOf_object_class
 have f5:=F.typeOf_object_class;have f6:=F.slot_gs_get.lookup;have f7:=F.slot_gs_set.lookup
 repeat (any_goals (first | assumption | with_reducible refine wpAny_bind (L0.at ?_) | with_reducible refine wpAny_bind (LC.at ?_) | wp_step))
 refine Pe X k L0 ?_
 repeat (any_goals (first | assumption | wp_step))
theorem MY {rest:List Value} {Q:Unit→Shared→Prop} {s:Shared} (X:K.In s.heap) (k:XcK K D) (L0:Looks (17:) s.heap (typeOf (.ref a)) (.ref D)) (ha:argsOk "BaseException.__getattribute__" ⟨.ref a :: rest,[]⟩) (q:Q () s) :
 wpAny (17:) A (checkBuiltinCall "BaseException.__getattribute__" ⟨.ref a :: rest,[]⟩) Q E s:=by
 have L1:=looks_mroIn (M:=model prog w) X k.sb
 have L2:Looks (17:) s.heap (isInstance (.ref a) (.type "BaseException")) true:=L0.andThen L1
 have hs:splitId "BaseException.__getattribute__" = some ("BaseException", "__getattribute__"):=by decide +kernel
 have hk:builtinKind "BaseException.__getattribute__" = some .slot:=by decide +kernel
 simp only [checkBuiltinCall,hk,hs]
 refine wpAny_bind (L2.at ?_)
 simp only [Bool.not_true,Bool.false_eq_true,if_false]
 cases e:Manifest.signature? "BaseException.__getattribute__" with
 | none=>exact wpAny_pure q
 | some sig =>
  simp only [argsOk,e] at ha
  have h2:Bind.checkArgs "BaseException.__getattribute__" sig ⟨.ref a :: rest,[]⟩=pure ():=ha
  show wpAny _ _ (Bind.checkArgs "BaseException.__getattribute__" sig ⟨.ref a :: rest,[]⟩) Q E s;rw [h2];exact wpAny_pure q
theorem NN {tk:Tok} {R:Result→Shared→Prop} (X:K.In h) (k:XcK K D) (L0:Looks (17:) h (typeOf (.ref a)) (.ref D)) (q:R (.ok (.ret (.ref D))) ⟨h,g,d,t,os⟩) :
 codeAny (17:) A (.call (.builtin "BaseException.__getattribute__") ⟨[.ref a,.str "__class__" tk],[]⟩) R ⟨h,g,d,t,os⟩ :=
 codeAny_call_builtin F.excAttr_ValueError.ga.plain F.entry_bexc_ga (MY X k L0 (F.args_bexc_ga _ _) (Lz X k L0 q))
theorem P5 {tk:Tok} {Q:Value→Shared→Prop} (X:K.In h) (k:XcK K D) (L0:Looks (17:) h (typeOf (.ref a)) (.ref D)) (q:Q (.ref D) ⟨h,g,d,t,os⟩) :
 wpAny (17:) A (getAttrBy (.ref a) (.str "__class__" tk) false) Q E ⟨h,g,d,t,os⟩:=by
 have LG:=looks_findIn (M:=model prog w) X k.ga
 have LN:=looks_findIn (M:=model prog w) X k.gn
 have f3:=F.excAttr_ValueError.ga.bind (.ref a)
 repeat (any_goals (first | assumption | with_reducible refine wpAny_bind (L0.at ?_) | with_reducible refine wpAny_bind (LG.at ?_) | with_reducible refine wpAny_bind (LN.at ?_) | wp_step))
 refine NN X k L0 ?_
 repeat (any_goals (first | assumption | wp_step))
theorem N1 {Q:Option Value→Shared→Prop} (X:K.In h) (k:XcK K D) (L0:Looks (17:) h (typeOf (.ref a)) (.ref D)) (q:Q (some (.ref D)) ⟨h,g,d,t + 1,os⟩) :
 wpAny (17:) A (getAttr? (.ref a) "__class__") Q E ⟨h,g,d,t,os⟩:=by
 unfold getAttr? getAttrBy?
 repeat (any_goals (first | assumption | with_reducible apply P5 X k L0 | wp_step))
end
theorem Ny {K:Frag} {a D:Addr} {c:Value} (k:XcK K D) (e:kitOne K (.ref D) c=some false):Answers (fun s=>K.In s.heap∧∃ ob,s.heap.get? a=some ob∧ob.cls=.ref D) (.ref a) c false:=by
 intro dep tk prog w A R s hs
 obtain ⟨h0,g,d,tt,os⟩:=s
 obtain ⟨⟨X,ob,hob,hcl⟩,hq⟩:=hs
 have LT:Looks (17:) h0 (typeOf (.ref a)) (.ref D):=hcl ▸ (Looks.ld hob).andThen .now
 have LD:Looks (17:) h0 (isType (.ref D)) true:=by
  obtain ⟨cd,hc,_⟩:=Option.bind_eq_some_iff.mp k.so
  unfold clsIn at hc
  split at hc
  ·rename_i c' d' cd' sl' ho
   intro A' Q' E' s' kk qq
   unfold isType loadHead;exact wpAny_bind (wpAny_loadPart (kk _ _ (X _ _ ho)) (wpAny_pure qq))
  ·cases hc
 unfold kitOne at e
 unfold Builtin.«isinstance.nested»
 refine wpAny_bind (LT.at ?_)
 by_cases q:(Value.ref D == c)=true
 ·rw [if_pos q] at e;cases e
 ·rw [if_neg q] at e
  rw [if_neg q]
  obtain ⟨hty,his,hsub⟩:=kit_cls (M:=model prog w) X e
  have LI:Looks (17:) h0 (isInstance (.ref a) c) false:=LT.andThen hsub
  refine wpAny_bind (hty.at ?_)
  rw [if_pos (27:)]
  k_delta "plainIsInstance"
  refine wpAny_bind (wpAny_bind (his.at ?_))
  simp only [Bool.not_true,Bool.false_eq_true,if_false]
  refine wpAny_bind (LI.at ?_)
  simp only [Bool.false_eq_true,if_false]
  refine wpAny_bind (N1 X k LT (wpAny_bind (LD.at ?_)))
  simp only [Bool.not_true,Bool.false_eq_true,if_false]
  refine wpAny_bind (wpAny_rule (hsub.at ?_))
  first
   | exact wpAny_pure (hq _)
   | exact wpAny_pure (wpAny_pure (hq _))
   | exact wpAny_bind (wpAny_pure (wpAny_pure (hq _)))
abbrev OE (K:Frag):List V→Hp→VK→Prop:=fun xs H Q=>∃ (a D:Addr) (v:V) (c:Value),xs=[.ref a,v]∧H a=some (ExcO a (.ref D))∧G8 v=some c∧XcK K D∧kitOne K (.ref D) c=some false∧Q (.bl false) H
section
variable {X:Cx}
theorem J1:Zs X (.builtin "isinstance") (OE X.K):=by
 intro pins s σ H xs us Q I r h
 obtain ⟨a,D,v,c,rfl,ha,hc,k,e,q⟩:=h
 obtain ⟨u,c',rfl,rx,rc⟩:=LJ r
 cases (show u=Value.ref a from rx)
 cases WB rc hc
 have hob:∃ ob,s.heap.get? a=some ob∧ob.cls=.ref D:=(I.hok a _ ha).1
 exact call_isinstance (S:=fun _ R s=>(X.K.In s.heap∧∃ ob,s.heap.get? a=some ob∧ob.cls=.ref D)∧∀ tk,R (.ok (.ret (.bool false))) { s with toks:=tk })
  (fun prog w A R s hs=>isinstance_outer (Ny k e 0 _ prog w A R s hs) (43:)) ⟨⟨I.kIn,hob⟩,fun tk=>⟨.bl false,H,I.tok tk,rfl,q⟩⟩
end
end L2
namespace K25
open PySem L2 TM TT K9 K11
def Xl (K:PySem.W.Frag) (CN CG T1 T2 T3:Addr):Sp:=fun vs H Q E=>∃ (tu wd lm:Addr) (sv:V) (mo:List MdT) (T:Tu) (rv:V) (t:Tree Str) (m:Nat) (md:MdT) (ask:Int) (kq:Str),vs=[.ref tu,.int (m:Int),rv,.int ask]∧Ask K H tu wd lm sv mo T rv t∧Rdy T∧mo[m]?=some md∧(reprText md.2.1).length≤1000∧(ask≤3→kq=T.k0)∧(4≤ask→kq=md.2.1)∧0≤ask∧Tld K CN CG T1 T2 T3 H (isT (QD T.ks) t kq) Q E
def Xq (K:PySem.W.Frag) (T1 T2 T3:Addr):Sp:=fun vs H Q _=>∃ (tu wd lm:Addr) (sv:V) (mo:List MdT) (T:Tu) (rv:V) (t:Tree Str) (m:Nat) (md:MdT) (ask:Int) (kq:Str),vs=[.ref tu,.int (m:Int),rv,.int ask,.bl (!isT (QD T.ks) t kq)]∧Ask K H tu wd lm sv mo T rv t∧Rdy T∧mo[m]?=some md∧(reprText md.2.1).length≤1000∧(ask≤3→kq=T.k0)∧(4≤ask→kq=md.2.1)∧0≤ask∧Tb3 T1 T2 T3 H∧∀ H':Hp,SX3 T1 T2 T3 H H'→Tb3 T1 T2 T3 H'→Q (.bl true) H'
theorem Tld.same {K:PySem.W.Frag} {CN CG T1 T2 T3:Addr} {H H1:Hp} {b:Bool} {Q:VK} {E:XK} (g:Same H H1) (h:Tld K CN CG T1 T2 T3 H b Q E):Tld K CN CG T1 T2 T3 H1 b Q E :=
 ⟨h.1.same g,fun z H' x t=>h.2.1 z H' ((SX3.of g).trans x) t,fun z=>⟨fun v' H' x t=>(h.2.2 z).1 v' H' ((SX3.of g).trans x) t,fun H' x t=>(h.2.2 z).2 H' ((SX3.of g).trans x) t⟩⟩
section
variable {P:Program} {w:World} {K:PySem.W.Frag} {mg:Str→Option Value} {base:Heap} {f:Addr} {fd:FuncData} {CN CG CT T1 T2 T3:Addr}
theorem ND:FnScope ["_law_turning_here", "_law_mode", "_law_tree", "_law_ask"] ["_law_turning_here", "_law_mode", "_law_tree", "_law_ask"] (defScope J9):=(1:)
theorem G1 (F:Fun K "_law_asked" "_law_asked" J9 f fd) (RM:FnX P w K mg base 56 "many" ["turning", "tree"] (Gp K CN CG T1 T2 T3)) (RL:FnX P w K mg base 56 "tall" ["turning", "tree"] (Gp K CN CG T1 T2 T3)) (RS:FnX P w K mg base 56 "seen" ["turning", "tree", "place"] (PU K CN CG T1 T2 T3)) (RT':FnX P w K mg base 57 "turned" ["turning", "tree"] (Pj K CN CG T1 T2 T3)) (RI:FnX P w K mg base 57 "turned_in" ["turning", "mode", "tree"] (WO K CN CG T1 T2 T3)) (RSI:FnX P w K mg base 56 "seen_in" ["turning", "mode", "tree", "place"] (Lj K CN CG T1 T2 T3)):FnOk P w K mg base (CX1 P w) 58 f fd ["_law_turning_here", "_law_mode", "_law_tree", "_law_ask"] (Xl K CN CG T1 T2 T3):=by
 refine Fun.okX F ND (8:) (4:)
 ·obtain ⟨tu,wd,lm,sv,mo,T,rv,t,m,md,ask,kq,rfl,_⟩:=h
  rfl
 obtain ⟨tu,wd,lm,sv,mo,T,rv,t,m,md,ask,kq,rfl,hA,hR,hmd,hrp,e1,e2,h0,hT⟩:=h
 refine ⟨_,(Qe (QL (Qw Zc (pv 3) Qd (QA _)) (Qh (Qp (Q3 (EE:=fun _=>E) RM hr (Zn fun _ _ h=>h) (Qa (pv 0) (Qa (pv 2) Qc))))) Qu)
  (Qe (QL (Qw Zc (pv 3) Qd (QA _)) (Qh (Qp (Q3 (EE:=fun _=>E) RL hr (Zn fun _ _ h=>h) (Qa (pv 0) (Qa (pv 2) Qc))))) Qu)
  (Qe (QL (Qw Zc (pv 3) Qd (QA _)) (Qh (Qp (Q3 (EE:=fun _=>E) RS hr (Zn fun _ _ h=>h) (Qa (pv 0) (Qa (pv 2) (Qa (Qz Qc) Qc)))))) Qu)
  (Qe (QL (Qw Zc (pv 3) Qd (QA _)) (Qh (Qp (Q3 (EE:=fun _=>E) RT' hr (Zn fun _ _ h=>h) (Qa (pv 0) (Qa (pv 2) Qc))))) Qu)
  (Qe (QL (Qw Zc (pv 3) Qd (QA _)) (Qh (Qp (Q3 (EE:=fun _=>E) RI hr (Zn fun _ _ h=>h) (Qa (pv 0) (Qa (pv 1) (Qa (pv 2) Qc)))))) Qu)
  (Qh (Qp (Q3 (EE:=fun _=>E) RSI hr (Zn fun _ _ h=>h) (Qa (pv 0) (Qa (pv 1) (Qa (pv 2) (Qa (Qz Qc) Qc)))))))))))),?_⟩
 have ae:∀ {i:Int},decide (V.int ask=V.int i)=true→ask=i:=fun h=>V.int.inj (of_decide_eq_true h)
 have an:∀ {i:Int},¬ decide (V.int ask=V.int i)=true→ask≠i:=fun h z=>h (by rw [z];exact decide_eq_true rfl)
 refine ⟨_,rfl,rfl,_,rfl,Zt (fun c=>?_) (fun c0=>?_)⟩
 ·rw [e1 (by have:=ae c;lia)] at hT
  exact ⟨_,rfl,_,rfl,tu,wd,lm,sv,mo,T,rv,t,rfl,hA,hR,hT⟩
 refine ⟨_,rfl,rfl,_,rfl,Zt (fun c=>?_) (fun c1=>?_)⟩
 ·rw [e1 (by have:=ae c;lia)] at hT
  exact ⟨_,rfl,_,rfl,tu,wd,lm,sv,mo,T,rv,t,rfl,hA,hR,hT⟩
 refine ⟨_,rfl,rfl,_,rfl,Zt (fun c=>?_) (fun c2=>?_)⟩
 ·rw [e1 (by have:=ae c;lia)] at hT
  refine ⟨_,rfl,_,rfl,(15:),fun p hp=>?_⟩
  have g:=Qf hp (.tup [])
  exact ⟨tu,wd,lm,sv,mo,T,rv,t,p,rfl,SqT.of Qb,hA.mo (Mo.of g),hR,hT.same g⟩
 refine ⟨_,rfl,rfl,_,rfl,Zt (fun c=>?_) (fun c3=>?_)⟩
 ·rw [e1 (by have:=ae c;lia)] at hT
  obtain ⟨htb,q1,q2⟩:=hT
  exact ⟨_,rfl,_,rfl,tu,wd,lm,sv,mo,T,rv,t,rfl,hA,hR.l,hR.s,hR.r,htb,q1,fun z _ v' H' x tb _=>(q2 z).1 v' H' x tb,fun z _ H' x tb=>(q2 z).2 H' x tb⟩
 have a0:=an c0
 have a1:=an c1
 have a2:=an c2
 have a3:=an c3
 rw [e2 (10:)] at hT
 refine ⟨_,rfl,rfl,_,rfl,Zt (fun c=>?_) (fun c4=>?_)⟩
 ·obtain ⟨htb,q1,q2⟩:=hT
  exact ⟨_,rfl,_,rfl,_,rfl,tu,wd,lm,sv,mo,T,rv,t,m,md,rfl,hA,hmd,hrp,htb,q1,fun z _ v' H' x tb _=>(q2 z).1 v' H' x tb,fun z _ H' x tb=>(q2 z).2 H' x tb⟩
 refine ⟨_,rfl,_,rfl,_,rfl,(15:),fun p hp=>?_⟩
 have g:=Qf hp (.tup [])
 exact ⟨tu,wd,lm,sv,mo,T,rv,t,m,md,p,rfl,SqT.of Qb,hA.mo (Mo.of g),hmd,hrp,hT.same g⟩
theorem Z0:FnScope ["_law_turning_here", "_law_mode", "_law_tree", "_law_ask", "_law_due", "_law_refused", "_law_plain", "e"] ["_law_turning_here", "_law_mode", "_law_tree", "_law_ask", "_law_due"] (defScope WK):=(1:)
theorem Le (F:Fun K "_law_right" "_law_right" WK f fd) (G:Gm mg) (hve:mg "ValueError" = none) (hN:mg "NoTree" = some (.ref CN)) (hG:mg "TooGreat" = some (.ref CG)) (hTE:mg "TurnError" = some (.ref CT)) (x1:PySem.W.exmOne K (.ref CN) (.ref CN)=some true) (x2:PySem.W.exmOne K (.ref CG) (.ref CN)=some false) (x3:PySem.W.exmOne K (.ref CG) (.ref CG)=some true) (xk:XcK K CN) (i1:PySem.W.kitOne K (.ref CN) (.ref CT)=some true) (i2:PySem.W.kitOne K (.ref CN) (.type "ValueError")=some true) (i3:PySem.W.kitOne K (.ref CN) (.ref CG)=some false)
 (RA:FnX P w K mg base 58 "_law_asked" ["_law_turning_here", "_law_mode", "_law_tree", "_law_ask"] (Xl K CN CG T1 T2 T3)):FnOk P w K mg base CX0 59 f fd ["_law_turning_here", "_law_mode", "_law_tree", "_law_ask", "_law_due"] (Xq K T1 T2 T3):=by
 refine F.ok Z0 (8:) (4:)
 ·obtain ⟨tu,wd,lm,sv,mo,T,rv,t,m,md,ask,kq,rfl,_⟩:=h
  rfl
 obtain ⟨tu,wd,lm,sv,mo,T,rv,t,m,md,ask,kq,rfl,hA,hR,hmd,hrp,e1,e2,h0,htb,q⟩:=h
 refine ⟨_,(Qe (Qn (i:=5) Z0.nd rfl (12:) ZK)
  (Qe (Qn (i:=6) Z0.nd rfl (12:) ZK)
  (Qe (ZS (N6 (i:=7) hN hG x1 x2 x3 rfl Z0.nd rfl rfl
   (fun pins EE=>Qh (QI (Q3 (EE:=EE) RA hr Rc (Qa (pv 0) (Qa (pv 1) (Qa (pv 2) (Qa (pv 3) Qc)))))))
   (fun a=>(Qe (Qn (i:=5) Z0.nd rfl (12:) ZK)
  (Qh (Qn (i:=6) Z0.nd rfl (12:) (Ju (Qr (r:=Pu K) YF rfl G.isi PyProof.Rows.boot_isinstance (Qa (pv 7) (Qa (Yt (v:=.ref CT) rfl hTE rfl) Qc))) (Ju (Qr (r:=Pu K) YF rfl G.isi PyProof.Rows.boot_isinstance (Qa (pv 7) (Qa (VD (v:=.ty "ValueError") rfl hve (0:) rfl) Qc))) (Xa (Lv (Qr (r:=OE K) J1 rfl G.isi PyProof.Rows.boot_isinstance (Qa (pv 7) (Qa (Yt (v:=.ref CG) rfl hG rfl) Qc)))))))))))
   (fun a=>Qh (Qn (i:=5) Z0.nd rfl (12:) ZK))))
  (Qh (Qp (Ju (pv 6) (Xa (Yk Zc (pv 5) (pv 4) (QA _))))))))),?_⟩
 refine ⟨fun σ' H'=>σ'=[some (.ref tu),some (.int (m:Int)),some rv,some (.int ask),some (.bl (!isT (QD T.ks) t kq)),some (.bl (!isT (QD T.ks) t kq)),some (.bl true),none]∧SX3 T1 T2 T3 H H'∧Tb3 T1 T2 T3 H',?_,?_⟩
 ·refine ⟨fun σ' cls _ H'=>σ'=[some (.ref tu),some (.int (m:Int)),some rv,some (.int ask),some (.bl (!isT (QD T.ks) t kq)),some (.bl false),some (.bl true),none]∧SX3 T1 T2 T3 H H'∧Tb3 T1 T2 T3 H'∧(cls=.ref CN∧isT (QD T.ks) t kq=false∨cls=.ref CG∧isT (QD T.ks) t kq=true),?_,?_⟩
  ·refine ⟨_,rfl,_,rfl,_,rfl,_,rfl,tu,wd,lm,sv,mo,T,rv,t,m,md,ask,kq,rfl,hA,hR,hmd,hrp,e1,e2,h0,htb,fun z H' x tb=>⟨rfl,x,tb,.inl ⟨rfl,z⟩⟩,fun z=>⟨fun v' H' x tb=>⟨by rw [z];rfl,x,tb⟩,fun H' x tb=>⟨rfl,x,tb,.inr ⟨rfl,z⟩⟩⟩⟩
  ·rintro σ' cls H' ⟨rfl,x,tb,⟨rfl,z⟩ | ⟨rfl,z⟩⟩
   ·refine .inl ⟨rfl,fun a ha=>?_⟩
    have ga:=Qf ha (ExcO a (.ref CN))
    refine ⟨_,rfl,a,.ref CN,.ref CT,.ref CT,rfl,Qb,rfl,i1,_,rfl,QZ ⟨_,rfl,a,.ref CN,.ty "ValueError", .type "ValueError", rfl,Qb,rfl,i2,_,rfl,QZ ⟨_,rfl,a,CN,.ref CG,.ref CG,rfl,Qb,rfl,xk,i3,_,rfl,?_⟩⟩⟩
    exact ⟨by rw [z];rfl,x.trans (SX3.of ga),tb.same ga⟩
   ·exact .inr ⟨rfl,by rw [z];rfl,x,tb⟩
 rintro σ' H' ⟨rfl,x,tb⟩
 refine ⟨_,rfl,_,rfl,QZ ⟨_,rfl,_,rfl,rfl,?_⟩⟩
 have:=q H' x tb
 simpa using this
end
end K25
namespace L2
open PySem PySem.Spec PyProof.Rows
theorem L4 {K:PySem.W.Frag} {a b:Addr} {xs ys:List V} {g:TG} {tb:TS} {D:Ends} {σ:St} {H:Hp} (hlen:xs.length=ys.length) (Pv:Nat→St→Hp→Prop) (h0:Pv 0 σ H) (hl:∀ i σ H,i≤xs.length→Pv i σ H→SqT K H a xs∧SqT K H b ys)
 (hs:∀ i u v p σ H,xs[i]?=some u→ys[i]?=some v→H p=none→Pv i σ H→g (.ref p) σ (upd H p (.tup [u,v])) fun σ2 H2=>tb { D with nx:=Pv (i + 1),ct:=Pv (i + 1),bk:=D.nx } σ2 H2) (hd:∀ σ H,Pv xs.length σ H→D.nx σ H) :
 ∃ W:Nat→Nat→St→Hp→Prop,(∃ m,W 0 m σ H)∧∀ i m σ H,W i m σ H →
  ((VZ K a b xs ys).stop i H∧D.nx σ H)∨((VZ K a b xs ys).go i H∧∃ N:St→Hp→Prop,(23:)∧∀ x H',(VZ K a b xs ys).yld i H x H'→g x σ H' fun σ2 H2=>tb { D with nx:=N,ct:=N,bk:=D.nx } σ2 H2):=by
 refine (59:)
 rintro i m σ H ⟨rfl,hi,p⟩
 obtain ⟨qa,qb⟩:=hl i σ H hi p
 by_cases h:i < xs.length
 ·refine .inr ⟨⟨qa,qb,h,by lia⟩,Pv (i + 1),fun σ' H' p'=>⟨xs.length - (i + 1),by lia,rfl,h,p'⟩,?_⟩
  rintro x H' ⟨p',u,v,hp,rfl,rfl,hu,hv⟩
  exact hs i u v p' σ H hu hv hp p
 ·have e:i=xs.length:=by lia
  subst e
  exact .inl ⟨⟨qa,Nat.le_refl _⟩,hd σ H p⟩
end L2
namespace K25
open PySem L2 TM TT K9 K11
theorem Rl {c A B:Prop} [Decidable c] (hc:¬ c) (h:A):if (!decide c)=true then A else B:=by
 rw [decide_eq_false hc];exact QZ h
theorem N9 {ks:List KdT} {kind:Str} (h:∃ k ∈ ks,k.2.1=kind):∃ kd,ks.find? (fun k=>decide (k.2.1=kind))=some kd∧Qy ks kind=kd.2.2.2∧kd ∈ ks:=by
 obtain ⟨k,hk,e⟩:=h
 cases e3:ks.find? (fun k=>decide (k.2.1=kind)) with
 | none=>exact absurd (List.find?_eq_none.mp e3 k hk) (by simp [e])
 | some kd=>exact ⟨kd,rfl,by unfold Qy;rw [e3];rfl,List.mem_of_find?_eq_some e3⟩
def WE (K:PySem.W.Frag) (n:Nat):Sp:=fun vs H Q _=>∃ (w:Addr) (kind:Str) (v:V) (t:Tree Str) (ks:List KdT),vs=[.ref w,.str kind,v]∧WoodAt K H w ks∧WF ks∧(∃ k ∈ ks,k.2.1=kind)∧TrV K H v t∧lv t≤n∧∀ H':Hp,Same H H'→Q (.bl (isT (QD ks) t kind)) H'
section
variable {P:Program} {w:World} {K:PySem.W.Frag} {mg:Str→Option Value} {base:Heap} {f:Addr} {fd:FuncData}
theorem VO:FnScope ["_law_wood_here", "_law_kind", "_law_tree", "_law_row", "_law_needed", "_law_branch"] ["_law_wood_here", "_law_kind", "_law_tree"] (defScope Me):=(1:)
theorem Pw {n:Nat} (F:Fun K "_law_of_kind" "_law_of_kind" Me f fd) (G:Gm mg) (R:Fn P w K mg base (n + 1) "_law_of_kind" ["_law_wood_here", "_law_kind", "_law_tree"] (WE K n)):FnOk P w K mg base CX0 (n + 2) f fd ["_law_wood_here", "_law_kind", "_law_tree"] (WE K (n + 1)):=by
 refine F.ok VO (8:) (4:)
 ·obtain ⟨w,kind,v,t,ks,rfl,_⟩:=h
  rfl
 obtain ⟨lw,kind,v,t,ks,rfl,hW,hF,hkind,hv,hlv,q⟩:=h
 refine ⟨_,(Qe (QU PassesOwn.never rfl (QT (Yl (Yw hr) (Qx (Zf rfl) rfl G.dct PyProof.Rows.boot_dict (Qa (pv 0) Qc)) (pv 1) (2:))) (QC (i:=3) VO.nd rfl (12:))
  (Qh (QL (Qw Zc (Qj Qk (pv 3) Qd (2:)) (Qj Qk (pv 2) Qd (2:)) (QA _)) (Qe (QL (Qw Os (Qr Qo rfl G.len PySem.boot_len (Qa (Qj Qk (pv 3) Qd (2:)) Qc)) (Qr Qo rfl G.len PySem.boot_len (Qa (Qj Qk (pv 2) Qd (2:)) Qc)) (QA _)) (Qh (Qp ZK)) Qu)
  (Qe (QU PassesOwn.never rfl (Vp rfl G.zip (Qa (Qj Qk (pv 3) Qd (2:)) (Qa (Qj Qk (pv 2) Qd (2:)) Qc))) (UG rfl (Q4 (QC (i:=4) VO.nd rfl (12:)) (Q4 (QC (i:=5) VO.nd rfl (12:)) YL))) (Qh (QL (J4 (ZW (Qq R hr (Qa (pv 0) (Qa (pv 4) (Qa (pv 5) Qc))) (7:)))) (Qh (Qp ZK)) Qu)))
  (Qh (Qp ZK)))) Qu)))
  (Qh (Qp ZK))),?_⟩
 cases hv with
 | @mk a b us ts name mark a1 a2 a3 a4 =>
 obtain ⟨kd,hkf,erow,hkm⟩:=N9 hkind
 have l1:=a3.length
 rw [Zg] at hlv
 have hlv':lvs ts≤n:=by have:1 + lvs ts≤n + 1:=hlv;lia
 refine ⟨_,rfl,lw,wts ks,rfl,wdA hW,wdB hW,wdC hF.ok,wdD hF.ok,fun dd hdd=>⟨_,rfl,dd,.ref kd.2.2.1,rfl,Xh Qb hkf,?_⟩⟩
 have g1:=Qf hdd (.dK (wkv ks))
 generalize upd H dd (.dK (wkv ks))=H1 at g1
 have hW1:=hW.same g1
 have hR:=(hW1.2 kd hkm).2
 refine ⟨kd.2.2.1,rfl,⟨_,hR.1⟩,?_⟩
 refine ZF (K:=K) (xs:=kd.2.2.2.map fun t=>V.ref t.1) (fun i σ H'=>∃ c3 c4 c5:Option V,σ=[some (.ref lw),some (.str kind),some (.ref a),c3,c4,c5]∧H'=H1∧kd.2.2.2.find? (fun r=>decide (r.2.1=name))=(kd.2.2.2.drop i).find? (fun r=>decide (r.2.1=name))) ⟨none,none,none,rfl,rfl,rfl⟩ ?_ ?_ ?_
 ·rintro i σ H' _ ⟨c3,c4,c5,_,rfl,_⟩
  exact hR.1
 ·rintro i x σ H' hx ⟨c3,c4,c5,rfl,rfl,hf⟩
  have hi:i < kd.2.2.2.length:=by
   have:=(List.getElem?_eq_some_iff.mp hx).1
   rwa [List.length_map] at this
  obtain rfl:x=.ref kd.2.2.2[i].1:=by
   rw [List.getElem?_map,List.getElem?_eq_getElem hi] at hx
   exact (Option.some.inj hx).symm
  have hrm:=List.getElem_mem hi
  obtain ⟨hr1,hr2⟩:=hR.2 _ hrm
  have a1':=g1.seqT a1
  have a2':=g1.seqT a2
  rw [List.drop_eq_getElem_cons hi,List.find?_cons] at hf
  refine ⟨_,rfl,_,_,0,_,rfl,rfl,hr1,rfl,_,rfl,a,_,0,_,rfl,rfl,a1',rfl,rfl,_,rfl,?_⟩
  by_cases he:kd.2.2.2[i].2.1=name
  ·rw [decide_eq_true he] at hf
   have hrow:QD ks kind name=some kd.2.2.2[i].2.2.2:=by unfold QD;rw [erow,hf];rfl
   have hisT:isT (QD ks) (53:) kind=(decide (kd.2.2.2[i].2.2.2.length=ts.length) && ZA (QD ks) ts kd.2.2.2[i].2.2.2):=by rw [Ub _ rfl,hrow]
   refine LF (by rw [he]) ?_
   refine ⟨_,rfl,_,_,1,_,rfl,rfl,hr1,rfl,kd.2.2.2[i].2.2.1,_,rfl,.inr hr2,_,rfl,a,_,2,_,rfl,rfl,a1',rfl,b,_,rfl,.inr a2',rfl,_,rfl,?_⟩
   have elen:(kd.2.2.2[i].2.2.2.map V.str).length=kd.2.2.2[i].2.2.2.length:=List.length_map ..
   by_cases hl:kd.2.2.2[i].2.2.2.length=ts.length
   ·refine Ou (by rw [elen,l1,hl]) ?_
    refine ⟨_,rfl,_,_,1,_,rfl,rfl,hr1,rfl,_,rfl,a,_,2,_,rfl,rfl,a1',rfl,kd.2.2.2[i].2.2.1,b,_,us,rfl,hr2,a2',?_⟩
    refine L4 (K:=K) (xs:=kd.2.2.2[i].2.2.2.map V.str) (ys:=us) (10:) (fun j σ H2=>∃ c4 c5:Option V,σ=[some (.ref lw),some (.str kind),some (.ref a),some (.ref kd.2.2.2[i].1),c4,c5]∧Same H' H2∧∀ (k:Nat) (c:Tree Str) (z:Str),k < j→ts[k]?=some c→kd.2.2.2[i].2.2.2[k]?=some z→isT (QD ks) c z=true)
     ⟨c4,c5,rfl,Same.refl _,fun k c z hk=>absurd hk (10:)⟩ ?_ ?_ ?_
    ·rintro j σ H2 _ ⟨c4,c5,_,g,_⟩
     exact ⟨g.seqT hr2,g.seqT a2'⟩
    ·rintro j u v p σ H2 hu hv hp ⟨c4,c5,rfl,g,hall⟩
     have hjb:j < ts.length:=by have:=(List.getElem?_eq_some_iff.mp hv).1;lia
     obtain ⟨cv,hcv,hct⟩:=a3.get (List.getElem?_eq_getElem hjb)
     obtain rfl:cv=v:=Option.some.inj (hcv.symm.trans hv)
     have hjs:j < kd.2.2.2[i].2.2.2.length:=by lia
     obtain rfl:u=.str kd.2.2.2[i].2.2.2[j]:=by
      rw [List.getElem?_map,List.getElem?_eq_getElem hjs] at hu
      exact (Option.some.inj hu).symm
     have gg:=(g1.trans g).trans (Qf hp (.tup [.str kd.2.2.2[i].2.2.2[j],cv]))
     have g2:=g.trans (Qf hp (.tup [.str kd.2.2.2[i].2.2.2[j],cv]))
     have k1:lv ts[j]≤lvs ts:=Yv (List.getElem_mem hjb)
     refine ⟨p,_,rfl,SqT.of Qb,rfl,_,_,rfl,_,_,rfl,rfl,?_⟩
     have hk2:∃ k ∈ ks,k.2.1=kd.2.2.2[i].2.2.2[j]:=List.mem_map.mp ((hF.kf kd hkm).cl _ hrm _ (List.getElem_mem hjs))
     refine ⟨_,rfl,_,rfl,_,rfl,lw,_,cv,ts[j],ks,rfl,hW.same gg,hF,hk2,hct.mono fun _ _=>gg.seqT,by lia,fun H4 g4=>⟨_,rfl,?_⟩⟩
     cases hb:isT (QD ks) ts[j] kd.2.2.2[i].2.2.2[j] with
     | true =>
      refine ZE ⟨_,_,rfl,g2.trans g4,fun k c z hk hc hz=>?_⟩
      by_cases hkj:k < j
      ·exact hall k c z hkj hc hz
      ·have:k=j:=by lia
       subst this
       rw [List.getElem?_eq_getElem hjb] at hc
       rw [List.getElem?_eq_getElem hjs] at hz
       cases hc
       cases hz
       exact hb
     | false =>
      refine QZ ?_
      have hfin:isT (QD ks) (53:) kind=false:=by
       rw [hisT,Bool.and_eq_false_iff]
       refine .inr ?_
       cases hz:ZA (QD ks) ts kd.2.2.2[i].2.2.2 with
       | false=>rfl
       | true =>
        have:=Xr hz (List.getElem?_eq_getElem hjb) (List.getElem?_eq_getElem hjs)
        rw [hb] at this;cases this
      have:=q H4 (gg.trans g4)
      rw [hfin] at this
      exact this
    ·rintro σ H2 ⟨c4,c5,rfl,g,hall⟩
     have hfin:isT (QD ks) (53:) kind=true:=by
      rw [hisT,decide_eq_true hl,Bool.true_and]
      refine Xz hl fun k c z hc hz=>hall k c z ?_ hc hz
      rw [elen]
      exact (List.getElem?_eq_some_iff.mp hz).1
     have:=q H2 (g1.trans g)
     rw [hfin] at this
     exact this
   ·refine Rl (by rw [elen,l1];exact fun z=>hl (by injection z with z;lia)) ?_
    have:=q H' g1
    rw [hisT,decide_eq_false hl,Bool.false_and] at this
    exact this
  ·rw [decide_eq_false he] at hf
   exact L5 (fun z=>he (by injection z)) ⟨_,_,_,rfl,rfl,hf⟩
 ·rintro σ H' ⟨c3,c4,c5,rfl,rfl,hf⟩
  rw [List.length_map,List.drop_length] at hf
  have hrow:QD ks kind name=none:=by unfold QD;rw [erow,hf];rfl
  have:=q _ g1
  rw [Ub _ rfl,hrow] at this
  exact this
theorem VT (F:Fun K "_law_of_kind" "_law_of_kind" Me f fd) (G:Gm mg) (b:Binds K fd ["_law_wood_here", "_law_kind", "_law_tree"] []) (hm:mg "_law_of_kind" = some (.ref f)):∀ n:Nat,FnOk P w K mg base CX0 (n + 1) f fd ["_law_wood_here", "_law_kind", "_law_tree"] (WE K n)
 | 0=>⟨fun vs H Q E h=>by obtain ⟨w,kind,v,t,ks,rfl,_⟩:=h;rfl,fun A outer s H args us vs Q E _ _ _ _ h=>by obtain ⟨w,kind,v,t,ks,_,_,_,_,_,h,_⟩:=h;rw [Zg] at h;lia⟩
 | n + 1=>Pw F G ⟨f,fd,VT F G b hm n,b,F.kp,hm⟩
end
end K25
namespace K25
open PySem L2 TM TT K9 K11
mutual
theorem MS {ks:List KdT} (hO:WoodOk ks):∀ {t:Tree Str} {k:Str},isT (QD ks) t k=true→LayT t
 | .node n m bs,k,h=>by
  rw [Ub _ rfl] at h
  cases e:QD ks k n with
  | none=>rw [e] at h;cases h
  | some ss =>
   rw [e] at h
   simp only [Bool.and_eq_true] at h
   refine LayT.node ?_ (Vs hO h.2)
   unfold QD at e
   cases e2:(Qy ks k).find? fun r=>decide (r.2.1=n) with
   | none=>rw [e2] at e;cases e
   | some r =>
    have h1:=List.find?_some e2
    have h2:r.2.1=n:=of_decide_eq_true h1
    rw [← h2]
    exact (Z8 hO k).nm r (List.mem_of_find?_eq_some e2)
theorem Vs {ks:List KdT} (hO:WoodOk ks):∀ {bs:List (Tree Str)} {ss:List Str},ZA (QD ks) bs ss=true→∀ t ∈ bs,LayT t
 | [],_,_=>fun t ht=>(nomatch ht)
 | b :: r,[],h=>by simp [ZA] at h
 | b :: r,s :: ss,h=>fun t ht=>by
  simp only [ZA,Bool.and_eq_true] at h
  rcases List.mem_cons.mp ht with e | z
  ·rw [e];exact MS hO h.1
  ·exact Vs hO h.2 t z
end
theorem G5 {ns:List Str} {k:Int} (hk:k=(ns.length:Int)) (h:0 < ns.length) (x:Int):∃ s,atI (ns.map V.str) (x % k)=some (.str s):=by
 subst hk
 have x0:0≤x % (ns.length:Int):=Int.emod_nonneg _ (10:)
 have x1:x % (ns.length:Int) < (ns.length:Int):=Int.emod_lt_of_pos _ (10:)
 obtain ⟨y,hy⟩ : ∃ y:Nat,x % (ns.length:Int)=(y:Int):=⟨_,(Int.toNat_of_nonneg x0).symm⟩
 have hyl:y < ns.length:=by lia
 rw [hy]
 exact ⟨ns[y],Qv (by rw [List.getElem?_map,List.getElem?_eq_getElem hyl];rfl)⟩
theorem GS {K:PySem.W.Frag} {H:Hp}:∀ {vs:List V} {ts:List (Tree Str)},TrAll K H vs ts→TrAll K H vs.reverse ts.reverse
 | _,_,.nil=>.nil
 | _,_,.cons a t=>by
  rw [List.reverse_cons,List.reverse_cons]
  exact TrAll.append (GS t) (.cons a .nil)
theorem Wl {K:PySem.W.Frag} {H:Hp}:∀ {vs:List V} {ts:List (Tree Str)} (k:Nat),TrAll K H vs ts→TrAll K H (vs.eraseIdx k) (ts.eraseIdx k)
 | _,_,_,.nil=>by simp;exact .nil
 | _,_,0,.cons _ t=>t
 | _,_,k + 1,.cons a t=>.cons a (Wl k t)
theorem WW {K:PySem.W.Frag} {H:Hp} {v:V} {t:Tree Str} (h:TrV K H v t):∀ {vs:List V} {ts:List (Tree Str)} (k:Nat),TrAll K H vs ts→TrAll K H (vs.set k v) (ts.set k t)
 | _,_,_,.nil=>.nil
 | _,_,0,.cons _ r=>.cons h r
 | _,_,k + 1,.cons a r=>.cons a (WW h k r)
theorem XL {d:Nat}:∀ {ts:List (Tree Str)},(∀ t ∈ ts,lv t≤d)→lvs ts≤d
 | [],_=>by simp [lvs]
 | t :: r,h=>by
  have h1:=h t List.mem_cons_self
  have h2:=XL (ts:=r) fun u hu=>h u (38:)
  simp only [lvs];lia
theorem OI {n k:Nat} (h:k < n):seqIndex? (k:Int) n=some k:=by
 unfold seqIndex?
 simp;lia
def Xj (K:PySem.W.Frag):Sp:=fun vs H Q _=>∃ (ln:Addr) (ns:List Str) (rv:V) (t:Tree Str) (x mk:Int),vs=[.ref ln,rv,.int x,.int mk]∧SqL K H ln (ns.map V.str)∧ns.length=8∧TrV K H rv t∧(∀ u ∈ t.bs,LayT u)∧t.bs.length≤10∧∀ (v':V) (t':Tree Str) (H':Hp),Same H H'→TrV K H' v' t'→lv t'≤lv t + 1→Q v' H'
section
variable {P:Program} {w:World} {K:PySem.W.Frag} {mg:Str→Option Value} {base:Heap} {f:Addr} {fd:FuncData}
theorem VE:FnScope ["_law_names_here", "_law_tree", "_law_number", "_law_mark_here", "_law_branches"] ["_law_names_here", "_law_tree", "_law_number", "_law_mark_here"] (defScope Xd):=(1:)
theorem LP (F:Fun K "_law_spoiled" "_law_spoiled" Xd f fd) (G:Gm mg):FnOk P w K mg base CX0 1 f fd ["_law_names_here", "_law_tree", "_law_number", "_law_mark_here"] (Xj K):=by
 refine F.ok VE (8:) (4:)
 ·obtain ⟨ln,ns,rv,t,x,mk,rfl,_⟩:=h
  rfl
 obtain ⟨ln,ns,rv,t,x,mk,rfl,hln,h8,hrv,hlay,hb10,q⟩:=h
 refine ⟨_,(Qe (Qn (i:=4) VE.nd rfl (12:) (Qx ZP rfl G.lst PyProof.Rows.boot_list (Qa (Qj Qk (pv 1) Qd (2:)) Qc)))
  (Qe (QL (Qw Zc (Ql Qs (pv 2) Qd) Qd (QA _)) (Qh (Qp (Qz (Qa (Qj Qm (Ql VA (pv 0) (QF (Qa (Q5) Qc))) (Ql Qs (Ql QG (pv 2) Qd) Qd) (2:)) (Qa (Qj Qk (pv 1) Qd (2:)) (Qa (Qj Qk (pv 1) Qd (2:)) Qc)))))) Qu)
  (Qe (QL (Qw Zc (Ql Qs (pv 2) Qd) Qd (QA _)) (Qh (Qp (Qz (Qa (Qj Qk (pv 1) Qd (2:)) (Qa (Qj Qk (pv 1) Qd (2:)) (Qa (Ql VU (Qj Qk (pv 1) Qd (2:)) (Qz (Qa ((Qz (Qa (Qj Qm (pv 0) (Ql Qs (Ql QG (pv 2) Qd) Qd) (2:)) (Qa (pv 3) (Qa (Qz Qc) Qc))))) Qc))) Qc)))))) Qu)
  (Qe (QL (WR (PW.pt (pw_and (Qw Zc (Ql Qs (pv 2) Qd) Qd (QA _)) (pw_and1 (Qw Ua (pv 4) (QF Qc) (QA _)))))) (Qe (QI (Zk PySem.F.plainAttrs_list PySem.F.slot_list_pop PySem.F.type_list_pop Wg (pv 4) (Qa (Ql Qs (Ql QG (pv 2) Qd) (49:)) Qc)))
  (Qh (Qp (Qz (Qa (Qj Qk (pv 1) Qd (2:)) (Qa (Qj Qk (pv 1) Qd (2:)) (Qa (Qx QN rfl G.tup PyProof.Rows.boot_tuple (Qa (pv 4) Qc)) Qc))))))) Qu)
  (Qe (QL (Qw Zc (Ql Qs (pv 2) Qd) Qd (QA _)) (Qe (QI (W1 PySem.F.plainAttrs_list PySem.F.slot_list_reverse PySem.F.type_list_reverse WL (pv 4)))
  (Qh (Qp (Qz (Qa (Qj Qk (pv 1) Qd (2:)) (Qa (pv 3) (Qa (Qx QN rfl G.tup PyProof.Rows.boot_tuple (Qa (pv 4) Qc)) Qc))))))) Qu)
  (Qe (QL (WR (PW.pt (pw_and (Qw Zc (Ql Qs (pv 2) Qd) Qd (QA _)) (pw_and1 (Qw Ua (pv 4) (QF Qc) (QA _)))))) (Qe (Y6 (Qz (Qa (Qj Qm (pv 0) (Ql Qs (Ql QG (pv 2) Qd) Qd) (2:)) (Qa (pv 3) (Qa (Qz Qc) Qc)))) (Y1 (pv 4) (Ql Qs (Ql QG (pv 2) Qd) (49:)) ZL))
  (Qh (Qp (Qz (Qa (Qj Qk (pv 1) Qd (2:)) (Qa (Qj Qk (pv 1) Qd (2:)) (Qa (Qx QN rfl G.tup PyProof.Rows.boot_tuple (Qa (pv 4) Qc)) Qc))))))) Qu)
  (Qh (Qp (Qz (Qa (Qj Qm (pv 0) (Ql Qs (Ql QG (pv 2) Qd) Qd) (2:)) (Qa (pv 3) (Qa (Qz Qc) Qc)))))))))))),?_⟩
 cases hrv with
 | @mk a b us ts name mark a1 a2 a3 a4 =>
 have l1:=a3.length
 have hb10':ts.length≤10:=hb10
 have elv:lv (Tree.node name mark ts)=1 + lvs ts:=by simp only [lv]
 rw [elv] at q
 have hlay':∀ u ∈ ts,LayT u:=hlay
 have hkid:∀ u ∈ ts,lv u≤lvs ts:=fun u hu=>Yv hu
 refine ⟨_,rfl,a,_,2,_,rfl,rfl,a1,rfl,b,us,rfl,.inr a2,fun lb hlb=>?_⟩
 have g1:=Qf hlb (.lst us)
 have hlb1:(upd H lb (.lst us)) lb=some (.lst us):=Qb
 have back:∀ b,(upd H lb (.lst us)) b=none→H b=none:=fun c hc=>g1.free hc
 generalize upd H lb (.lst us)=H1 at g1 hlb1 back ⊢
 have b1:=g1.seqT a1
 have b2:=g1.seqT a2
 have b3:TrAll K H1 us ts:=a3.mono fun _ _=>g1.seqT
 have hln1:=g1.seq hln
 have put:∀ {n:Str} {m:Int} {bb:Addr} {ws:List V} {cs:List (Tree Str)} {H2 H3:Hp} {pr:Addr},Same H H2→Same H2 H3→SqT K H3 pr [.str n,.int m,.ref bb]→SqT K H2 bb ws→TrAll K H2 ws cs→cs.length≤11→(∀ u ∈ cs,lv u≤lvs ts + 1)→Q (.ref pr) H3:=fun {n m bb ws cs H2 H3 pr} g2 g3 h1 h2 h3 h4 h5=>by
  have:=h3.length
  refine q _ (.node n m cs) H3 (g2.trans g3) (.mk h1 (g3.seqT h2) (h3.mono fun _ _=>g3.seqT) (10:)) ?_
  have h6:=XL h5
  simp only [lv];lia
 have six:(0:Int) < 6:=by decide
 have room:∀ n:Nat,n≤64→(A.deeper (PyProof.Rows.envOfC "_law_spoiled" (defScope Xd) s.heap.objs.size f cdv)).units + n < cLine:=fun n hn=>by have:=hr.un;lia
 obtain ⟨s8,hs8⟩:=G5 (ns:=ns) (k:=8) (by rw [h8];rfl) (10:) (x / 8)
 obtain ⟨s32,hs32⟩:=G5 (ns:=ns) (k:=8) (by rw [h8];rfl) (10:) (x / 32)
 have one:∀ {n:Str} {H2:Hp} {pt pe:Addr},SqT K H2 pe []→SqT K H2 pt [.str n,.int mk,.ref pe]→TrV K H2 (.ref pt) (.node n mk []):=fun h1 h2=>.mk h2 h1 .nil (24:)
 refine ⟨_,rfl,_,_,rfl,rfl,six,rfl,_,rfl,Zt (fun c=>?_) (fun c0=>?_)⟩
 ·refine ⟨_,rfl,(45:),fun l1' hl1=>?_⟩
  have e1:=Qf hl1 (.lst [.str "zzzzzzzz"])
  refine ⟨ln,l1',_,_,rfl,rfl,e1.seq hln1,SqL.of Qb,(by rw [List.length_map,h8];show 9≤sizeLine;decide),fun l2 hl2=>?_⟩
  have e2:=Qf hl2 (.lst (ns.map V.str ++ [.str "zzzzzzzz"]))
  have e12:=e1.trans e2
  obtain ⟨s9,hs9⟩:=G5 (ns:=ns ++ [Str.ofString "zzzzzzzz"]) (k:=9) (by simp [h8]) (24:) (x / 8)
  rw [List.map_append] at hs9
  refine ⟨_,rfl,_,_,rfl,rfl,(13:),_,_,rfl,rfl,(by show (0:Int) < 9;decide),l2,_,_,.str s9,rfl,rfl,SqL.of Qb,hs9,_,rfl,a,_,1,_,rfl,rfl,e12.seqT b1,rfl,_,rfl,a,_,2,_,rfl,rfl,e12.seqT b1,rfl,(21:),fun pr hpr=>?_⟩
  exact put (g1.trans e12) (Qf hpr _) (SqT.of Qb) (e12.seqT b2) (b3.mono fun _ _=>e12.seqT) (10:) fun u hu=>by have:=hkid u hu;lia
 refine ⟨_,rfl,_,_,rfl,rfl,six,rfl,_,rfl,Zt (fun c=>?_) (fun c1=>?_)⟩
 ·refine ⟨_,rfl,a,_,0,_,rfl,rfl,b1,rfl,_,rfl,a,_,1,_,rfl,rfl,b1,rfl,_,rfl,a,_,2,_,rfl,rfl,b1,rfl,_,rfl,_,rfl,_,_,rfl,rfl,(13:),_,_,rfl,rfl,(by show (0:Int) < 8;decide),ln,_,_,.str s8,rfl,rfl,hln1,hs8,_,rfl,(15:),fun pe hpe=>⟨(21:),fun pt hpt=>⟨(45:),fun p1 hp1=>?_⟩⟩⟩
  have e1:=Qf hpe (.tup [])
  have e2:=Qf hpt (.tup [.str s8,.int mk,.ref pe])
  have e3:=Qf hp1 (.tup [.ref pt])
  have e123:=e1.trans (e2.trans e3)
  refine ⟨b,p1,us,[V.ref pt],rfl,rfl,e123.seqT b2,SqT.of Qb,(by show us.length + 1≤sizeLine;exact Q7 (10:)),fun pc Hc gc hpc0=>⟨(21:),fun pr hpr=>?_⟩⟩
  have hpc:SqT K Hc pc (us ++ [V.ref pt]):=hpc0
  have g4:=e123.trans gc
  refine put (ws:=us ++ [V.ref pt]) (cs:=ts ++ [.node s8 mk []]) (g1.trans g4) (Qf hpr _) (SqT.of Qb) hpc (TrAll.append (b3.mono fun _ _=>g4.seqT) (.cons (one ((e2.trans (e3.trans gc)).seqT (SqT.of Qb)) ((e3.trans gc).seqT (SqT.of Qb))) .nil)) (by simp;lia) fun u hu=>?_
  rcases List.mem_append.mp hu with z | z
  ·have:=hkid u z;lia
  ·rw [List.mem_singleton.mp z];simp only [lv,lvs];lia
 have dat:∀ {H2:Hp} {p:Addr},Same H1 H2→H2 p=some (.lst [])→RdV K H2 (.ref lb) (.list (tds ts))∧RdV K H2 (.ref p) (.list []):=fun {H2 p} g hp=>⟨.lst (SqL.of (g _ _ hlb1)) (TrAll.rd (b3.mono fun _ _=>g.seqT)),.lst (SqL.of hp) .nil⟩
 have layL:(PyData.list (tds ts)).canLay0=true:=by simp only [PyData.canLay0];exact Xw ts hlay'
 have ulen:ts≠[]→(0:Int) < (us.length:Int):=fun h=>by
  cases ts with
  | nil=>exact absurd rfl h
  | cons _ _=>simp only [List.length_cons] at l1;lia
 refine ⟨fun b H'=>Same H1 H'∧(b=true→ts≠[]),?_,?_⟩
 ·refine ⟨_,rfl,_,_,rfl,rfl,six,rfl,_,rfl,Zt (fun c=>?_) (fun c=>⟨Same.refl _,fun z=>by cases z⟩)⟩
  refine ⟨_,rfl,(15:),fun p hp=>?_⟩
  have ge:=Qf hp (.lst [])
  obtain ⟨r1,r2⟩:=dat ge (p:=p) Qb
  refine ⟨_,_,r1,r2,layL,by decide,room _ (22:),_,rfl,ge,fun z y=>?_⟩
  rw [y] at z
  exact absurd z (27:)
 rintro bb H2 ⟨g2,hbb⟩
 have f1:=g2.seqT b1
 have f3:TrAll K H2 us ts:=b3.mono fun _ _=>g2.seqT
 have hlb2:=g2 _ _ hlb1
 have k2:∀ (ys:List V),∀ a xs,SqT K H2 a xs→SqT K (upd H2 lb (.lst ys)) a xs:=fun ys a xs h=>h.put hlb2
 have k3:∀ (ys:List V),Same H (upd H2 lb (.lst ys)):=fun ys b u e=>by
  have hne:b≠lb:=fun z=>by rw [z] at e;rw [hlb] at e;cases e
  rw [Qg hne];exact g2 _ _ (g1 _ _ e)
 have fin:∀ {ys:List V} {cs:List (Tree Str)} {n:Str} {m:Int},TrAll K (upd H2 lb (.lst ys)) ys cs→cs.length≤11→(∀ u ∈ cs,lv u≤lvs ts + 1)→∀ pt,(upd H2 lb (.lst ys)) pt=none→∀ pr,(upd (upd H2 lb (.lst ys)) pt (.tup ys)) pr=none→Q (.ref pr) (upd (upd (upd H2 lb (.lst ys)) pt (.tup ys)) pr (.tup [.str n,.int m,.ref pt])):=fun {ys cs n m} h1 h2 h3 pt hpt pr hpr=>by
  have e1:=Qf hpt (.tup ys)
  exact put ((k3 ys).trans e1) (Qf hpr _) (SqT.of Qb) (SqT.of Qb) (h1.mono fun _ _=>e1.seqT) h2 h3
 cases bb with
 | true =>
  refine QZ ?_
  have hp0:=ulen (hbb rfl)
  have z0:0≤x / 8 % (us.length:Int):=Int.emod_nonneg _ (10:)
  have z1:x / 8 % (us.length:Int) < (us.length:Int):=Int.emod_lt_of_pos _ hp0
  obtain ⟨k,hk,hk1⟩ : ∃ k:Nat,x / 8 % (us.length:Int)=(k:Int)∧k < us.length:=⟨(x / 8 % (us.length:Int)).toNat,by lia,by lia⟩
  refine ⟨_,rfl,.inl ⟨rfl,_,SqL.of hlb2⟩,_,rfl,_,_,rfl,rfl,(13:),_,rfl,lb,_,rfl,.inl (SqL.of hlb2),_,_,rfl,rfl,hp0,lb,us,_,k,us[k],rfl,rfl,hlb2,(10:),(10:),by rw [hk];exact OI hk1,List.getElem?_eq_getElem hk1,?_⟩
  have kk:=k2 (us.eraseIdx k)
  refine ⟨_,rfl,a,_,0,_,rfl,rfl,kk _ _ f1,rfl,_,rfl,a,_,1,_,rfl,rfl,kk _ _ f1,rfl,_,rfl,lb,_,rfl,.inl ⟨SqL.of Qb,fun pt hpt=>⟨(21:),fun pr hpr=>?_⟩⟩⟩
  exact fin (Wl k (f3.mono kk)) (by rw [List.length_eraseIdx];split <;> lia) (fun u hu=>by have:=hkid u (List.mem_of_mem_eraseIdx hu);lia) pt hpt pr hpr
 | false =>
 refine ZE ?_
 refine ⟨_,rfl,_,_,rfl,rfl,six,rfl,_,rfl,Zt (fun c=>?_) (fun c3=>?_)⟩
 ·refine ⟨_,rfl,.inl ⟨rfl,_,SqL.of hlb2⟩,lb,us,rfl,rfl,hlb2,?_⟩
  have kk:=k2 us.reverse
  refine ⟨_,rfl,a,_,0,_,rfl,rfl,kk _ _ f1,rfl,_,rfl,_,rfl,lb,_,rfl,.inl ⟨SqL.of Qb,fun pt hpt=>⟨(21:),fun pr hpr=>?_⟩⟩⟩
  exact fin (GS (f3.mono kk)) (by rw [List.length_reverse];lia) (fun u hu=>by have:=hkid u (List.mem_reverse.mp hu);lia) pt hpt pr hpr
 clear fin k2 k3
 have b1:=f1
 have b3:=f3
 have hln2:=g2.seq hln1
 refine ⟨fun b H'=>Same H2 H'∧(b=true→ts≠[]),?_,?_⟩
 ·refine ⟨_,rfl,_,_,rfl,rfl,six,rfl,_,rfl,Zt (fun c=>?_) (fun c=>⟨Same.refl _,fun z=>by cases z⟩)⟩
  refine ⟨_,rfl,(15:),fun p hp=>?_⟩
  have ge:=Qf hp (.lst [])
  obtain ⟨r1,r2⟩:=dat (g2.trans ge) (p:=p) Qb
  refine ⟨_,_,r1,r2,layL,by decide,room _ (22:),_,rfl,ge,fun z y=>?_⟩
  rw [y] at z
  exact absurd z (27:)
 rintro bb H3 ⟨g3,hbb⟩
 cases bb with
 | true =>
  refine QZ ?_
  have hp0:=ulen (hbb rfl)
  have z0:0≤x / 8 % (us.length:Int):=Int.emod_nonneg _ (10:)
  have z1:x / 8 % (us.length:Int) < (us.length:Int):=Int.emod_lt_of_pos _ hp0
  obtain ⟨k,hk,hk1⟩ : ∃ k:Nat,x / 8 % (us.length:Int)=(k:Int)∧k < us.length:=⟨(x / 8 % (us.length:Int)).toNat,by lia,by lia⟩
  refine ⟨_,rfl,_,rfl,_,_,rfl,rfl,(13:),_,_,rfl,rfl,(by show (0:Int) < 8;decide),ln,_,_,.str s32,rfl,rfl,g3.seq hln2,hs32,_,rfl,(15:),fun pe hpe=>⟨(21:),fun pt hpt=>?_⟩⟩
  have e1:=Qf hpe (.tup [])
  have e2:=Qf hpt (.tup [.str s32,.int mk,.ref pe])
  have e12:=e1.trans e2
  have hlb4:=e12 _ _ (g3 _ _ hlb2)
  have hnew:=one (e2.seqT (SqT.of Qb)) (SqT.of (K:=K) (show (upd (upd H3 pe (.tup [])) pt (.tup [.str s32,.int mk,.ref pe])) pt=_ from Qb))
  have f1':=(g3.trans e12).seqT f1
  have f3':TrAll K _ us ts:=f3.mono fun _ _=>(g3.trans e12).seqT
  have gH4:=(g1.trans g2).trans (g3.trans e12)
  generalize upd (upd H3 pe (.tup [])) pt (.tup [.str s32,.int mk,.ref pe])=H4 at hlb4 hnew f1' f3' gH4 ⊢
  refine ⟨_,rfl,_,rfl,_,_,rfl,rfl,(13:),_,rfl,lb,_,rfl,.inl (SqL.of hlb4),_,_,rfl,rfl,hp0,lb,us,_,k,rfl,rfl,hlb4,by rw [hk];exact YV hk1,?_⟩
  have kk:∀ a xs,SqT K H4 a xs→SqT K (upd H4 lb (.lst (us.set k (.ref pt)))) a xs:=fun a xs h=>h.put hlb4
  have k3:Same H (upd H4 lb (.lst (us.set k (.ref pt)))):=fun b u e=>by
   have hne:b≠lb:=fun z=>by rw [z] at e;rw [hlb] at e;cases e
   rw [Qg hne];exact gH4 _ _ e
  refine ⟨_,rfl,a,_,0,_,rfl,rfl,kk _ _ f1',rfl,_,rfl,a,_,1,_,rfl,rfl,kk _ _ f1',rfl,_,rfl,lb,_,rfl,.inl ⟨SqL.of Qb,fun pt2 hpt2=>⟨(21:),fun pr hpr=>?_⟩⟩⟩
  have e5:=Qf hpt2 (.tup (us.set k (.ref pt)))
  refine put (cs:=ts.set k (.node s32 mk [])) (k3.trans e5) (Qf hpr _) (SqT.of Qb) (SqT.of Qb) (WW (hnew.mono fun _ _ h=>e5.seqT (kk _ _ h)) k (f3'.mono fun _ _ h=>e5.seqT (kk _ _ h))) (by rw [List.length_set];lia) fun u hu=>?_
  rcases List.mem_or_eq_of_mem_set hu with z | z
  ·have:=hkid u z;lia
  ·rw [z];simp only [lv,lvs];lia
 | false =>
  refine ZE ?_
  refine ⟨_,rfl,_,rfl,_,_,rfl,rfl,(13:),_,_,rfl,rfl,(by show (0:Int) < 8;decide),ln,_,_,.str s8,rfl,rfl,g3.seq hln2,hs8,_,rfl,(15:),fun pe hpe=>⟨(21:),fun pt hpt=>?_⟩⟩
  have e1:=Qf hpe (.tup [])
  exact put (cs:=[]) (((g1.trans g2).trans g3).trans e1) (Qf hpt _) (SqT.of Qb) (SqT.of Qb) .nil (24:) fun u hu=>(nomatch hu)
end
end K25
namespace L2
open PySem PySem.Spec PyProof.Rows
section
variable {X:Cx}
end
end L2
namespace L2
open PySem PySem.Spec PyProof.Rows
section
variable {X:Cx}
def eqI (k:Int):Value→Bool
 | .int a _=>(a == k)
 | _=>false
theorem Mt {ns:List Int}:∀ {its:List Value},Vals (ns.map V.int) its→∀ (i:Nat) (v:Value),its[i]?=some v→∃ (a:Int) (t:Tok),ns[i]?=some a∧v=.int a t:=by
 induction ns with
 | nil=>intro its h i v e;cases h;simp at e
 | cons a r ih =>
  intro its h i v e
  cases h with
  | @cons _ u _ us h1 h2 =>
   obtain ⟨t,rfl⟩:=(show ∃ t,u=Value.int a t from h1)
   cases i with
   | zero =>
    have:Value.int a t=v:=by simpa using e
    exact ⟨a,t,rfl,this.symm⟩
   | succ i =>
    obtain ⟨a',t',h3,h4⟩:=ih h2 i v (by simpa using e)
    exact ⟨a',t',by simpa using h3,h4⟩
theorem VY:MtM X "list.index" (fun x vs H Q=>∃ (l:Addr) (ns:List Int) (k:Int) (j:Nat),x=.ref l∧vs=[.int k]∧H l=some (.lst (ns.map V.int))∧ns.length≤1000∧ns[j]?=some k∧(∀ i,i < j→ns[i]?≠some k)∧Q (.int (j:Int)) H):=by
 intro pins s σ H x vs v us Q I rx rv h
 obtain ⟨l,ns,k,j,rfl,rfl,hH,hz,hj,hno,q⟩:=h
 cases rx
 obtain ⟨u,rfl,ru⟩:=rv.one
 obtain ⟨t,rfl⟩:=(show ∃ t,u=Value.int k t from ru)
 obtain ⟨z,its,n,r,hl,e⟩:=I.lstM hH
 rw [List.length_map] at hl
 have hjl:j < its.length:=by have:=(List.getElem?_eq_some_iff.mp hj).1;lia
 have get:∀ (i:Nat) (h:i < its.length),∃ (a:Int) (t:Tok),ns[i]?=some a∧its[i]=.int a t:=fun i h=>Mt r i its[i] (List.getElem?_eq_getElem h)
 refine call_meets F.slot_list_index ⟨_,e,rfl⟩ F.entry_list_index (F.args_list_index_2 _ _) (MeetsSeq.list_index l its.toArray n (.int k t) (eqI k) (fun y hy=>?_) j (by simpa using hjl) (10:) ?_ (fun i hi hlt=>?_)) ⟨e,?_⟩
 ·have hy':y ∈ its:=by simpa using hy
  obtain ⟨i,hi,rfl⟩:=List.mem_iff_getElem.mp hy'
  obtain ⟨a,t',_,ea⟩:=get i hi
  rw [ea]
  exact MeetsSeq.EqGives.int a k t' t
 ·obtain ⟨a,t',h1,ea⟩:=get j hjl
  have:a=k:=Option.some.inj (h1.symm.trans hj)
  simp [List.getElem_toArray,ea,eqI,this]
 ·have hi':i < its.length:=by simpa using hi
  obtain ⟨a,t',h1,ea⟩:=get i hi'
  have:a≠k:=fun z=>hno i hlt (by rw [h1,z])
  simp [List.getElem_toArray,ea,eqI,this]
 ·exact ⟨.int j,H,I.tok _,(54:),q⟩
end
end L2
namespace K25
open PySem L2 TM TT K9 K11
theorem Oj (ch:List Nat) (s:Nat):inV (.int (s:Int)) (NI ch)=decide (s ∈ ch):=by
 induction ch with
 | nil=>rfl
 | cons a r ih =>
  have e:inV (.int (s:Int)) (NI (a :: r))=(((a:Int) == (s:Int)) || inV (.int (s:Int)) (NI r)):=rfl
  rw [e,ih]
  by_cases h:a=s
  ·subst h;simp
  ·have h2:((a:Int) == (s:Int))=false:=by simp;lia
   have h3:¬ s=a:=fun z=>h z.symm
   simp [h2,h3]
theorem M8 (ch:List Nat):(NI ch).all YS=true:=by
 induction ch with
 | nil=>rfl
 | cons a r ih=>exact ih
theorem Wo {s:Nat}:∀ {ch:List Nat},s ∈ ch→∃ j:Nat,ch[j]?=some s∧∀ i,i < j→ch[i]?≠some s
 | [],h=>(nomatch h)
 | a :: r,h=>by
  by_cases e:a=s
  ·exact ⟨0,by rw [e];rfl,fun i hi=>absurd hi (10:)⟩
  ·have h2:s ∈ r:=by
    rcases List.mem_cons.mp h with z | z
    ·exact absurd z.symm e
    ·exact z
   obtain ⟨j,h3,h4⟩:=Wo h2
   refine ⟨j + 1,h3,fun i hi=>?_⟩
   cases i with
   | zero=>intro z;exact e (Option.some.inj z)
   | succ i=>exact h4 i (10:)
theorem NP (ch:List Nat):NI ch=(ch.map fun n:Nat=>(n:Int)).map V.int:=by rw [List.map_map];rfl
structure NdX (K:PySem.W.Frag) (H:Hp) (ln:Addr) (ns:List Nd):Prop where
 at':NdsAt K H ln ns
 hc:∀ (i:Nat) n,ns[i]?=some n→H n.cl=some (.lst (NI n.ch))
theorem NdX.same {K:PySem.W.Frag} {H H':Hp} {ln:Addr} {ns:List Nd} (g:Same H H') (h:NdX K H ln ns):NdX K H' ln ns:=⟨h.at'.same g,fun i n e=>g _ _ (h.hc i n e)⟩
theorem LR {ks:List KdT} (hO:WoodOk ks) {t:Tree Str} {k:Str} (h:isT (QD ks) t k=true):t.bs.length≤4:=by
 obtain ⟨n,m,bs⟩:=t
 rw [Ub _ rfl] at h
 cases e:QD ks k n with
 | none=>rw [e] at h;cases h
 | some ss =>
  rw [e] at h
  simp only [Bool.and_eq_true,decide_eq_true_eq] at h
  have:=(Nx hO e).2
  show bs.length≤4
  lia
def Vc (K:PySem.W.Frag):Sp:=fun vs H Q _=>∃ (lw ln lm:Addr) (ks:List KdT) (top:Nat) (ns:List Nd) (nm:List Str) (c:Int),vs=[.ref lw,.ref ln,.ref lm,.int c]∧WoodAt K H lw ks∧WF ks∧NdX K H ln ns∧AllOk ks top ns∧0 < ns.length∧ns.length≤200∧SqL K H lm (nm.map V.str)∧nm.length=8 ∧
 ∀ (v:V) (t:Tree Str) (H':Hp),Same H H'→TrV K H' v t→lv t≤top + 1→Q v H'
section
variable {P:Program} {w:World} {K:PySem.W.Frag} {mg:Str→Option Value} {base:Heap} {f:Addr} {fd:FuncData}
theorem ZO:FnScope ["_law_wood_here", "_law_nodes", "_law_names_here", "_law_cell", "_law_number", "_law_spot", "_law_trees", "_law_spoiled_here", "_law_k", "_law_inner"] ["_law_wood_here", "_law_nodes", "_law_names_here", "_law_cell"] (defScope ML):=(1:)
theorem Oe (F:Fun K "_law_respelled" "_law_respelled" ML f fd) (G:Gm mg) (RM:Fn P w K mg base 1 "_law_mixed" ["_law_cell", "_law_k"] Q8) (RG:Fn P w K mg base 1 "_law_great" ["_law_cell"] Yj) (RB:Fn P w K mg base 2 "_law_built" ["_law_wood_here", "_law_nodes"] (UA K)) (RS:Fn P w K mg base 1 "_law_spoiled" ["_law_names_here", "_law_tree", "_law_number", "_law_mark_here"] (Xj K)):FnOk P w K mg base CX0 3 f fd ["_law_wood_here", "_law_nodes", "_law_names_here", "_law_cell"] (Vc K):=by
 refine F.ok ZO (8:) (4:)
 ·obtain ⟨lw,ln,lm,ks,top,ns,nm,c,rfl,_⟩:=h
  rfl
 obtain ⟨lw,ln,lm,ks,top,ns,nm,c,rfl,hW,hF,hN,hA,hpos,h200,hlm,h8,q⟩:=h
 refine ⟨_,(Qe (Qn (i:=4) ZO.nd rfl (12:) (Qq RM hr (Qa (pv 3) (Qa (Qd) Qc))))
  (Qe (Qn (i:=5) ZO.nd rfl (12:) (Ql Qs (Ql QG (pv 4) Qd) (Qr Qo rfl G.len PySem.boot_len (56:))))
  (Qe (Qn (i:=6) ZO.nd rfl (Or.inr rfl) (Qq RB hr (Qa (pv 0) (56:))))
  (Qe (Qn (i:=7) ZO.nd rfl (12:) (Qq RS hr (Qa (pv 2) (Qa (Qj Qm (pv 6) (pv 5) (2:)) (Qa (pv 4) (Qa (Qq RG hr (Qa (pv 3) Qc)) Qc))))))
  (Qe (QU PassesOwn.never rfl (GV rfl G.rev (Qa (Qx JW rfl G.rng PyProof.Rows.boot_range (Qa (pv 5) Qc)) Qc)) (QC (i:=8) ZO.nd rfl (12:)) (Qh
   (QL (Qw Gf (pv 5) (Qj Qm (Qj Qm (pv 1) (pv 8) (2:)) Qd (2:)) rfl) (Qe (ZV (i:=9) (CompG.many (xs:=["_law_j"]) (caps:=["_law_trees"]) (cap:=[6]) (cs:=[_]) rfl rfl (0:) (0:) (0:) (0:) (0:) (0:) rfl rfl rfl) rfl (QT (Qj Qm (Qj Qm (pv 1) (pv 8) (2:)) Qd (2:))) (Zo (CompG.many (xs:=["_law_j"]) (caps:=["_law_trees"]) (cap:=[6]) (cs:=[_]) rfl rfl (0:) (0:) (0:) (0:) (0:) (0:) rfl rfl rfl)) (fun _ _ _ _=>Q2) (fun _ _ _ _=>Qj (r:=Xx K) Qm (pv 1) (pv 0) (2:)) ZO.nd rfl rfl)
  (Qe (Y6 (pv 7) (Y1 (pv 9) (Zk PySem.F.plainAttrs_list PySem.F.slot_list_index PySem.F.type_list_index VY (Qj Qm (Qj Qm (pv 1) (pv 8) (2:)) Qd (2:)) (Qa (pv 5) Qc)) ZL))
  (Qe (Qn (i:=7) ZO.nd rfl (12:) (Qz (Qa (Qj Qk (Qj Qm (pv 6) (pv 8) (2:)) Qd (2:)) (Qa (Qj Qk (Qj Qm (pv 6) (pv 8) (2:)) Qd (2:)) (Qa (Qx QN rfl G.tup PyProof.Rows.boot_tuple (Qa (pv 9) Qc)) Qc)))))
  (Qh (Qn (i:=5) ZO.nd rfl (12:) (pv 8)))))) Qu)))
  (Qh (Qp (pv 7)))))))),?_⟩
 have hnl:(NR ns).length=ns.length:=List.length_map ..
 refine ⟨_,rfl,c,3,rfl,by decide,by decide,fun x x0 x1=>?_⟩
 have hp0:(0:Int) < ((NR ns).length:Int):=by lia
 refine ⟨_,rfl,_,_,rfl,rfl,(13:),_,rfl,ln,_,rfl,.inl hN.at'.l,_,_,rfl,rfl,hp0,?_⟩
 have z0:0≤x / 1024 % ((NR ns).length:Int):=Int.emod_nonneg _ (10:)
 have z1:x / 1024 % ((NR ns).length:Int) < ((NR ns).length:Int):=Int.emod_lt_of_pos _ hp0
 obtain ⟨s0,hs0,hs1⟩ : ∃ s0:Nat,x / 1024 % ((NR ns).length:Int)=(s0:Int)∧s0 < ns.length:=⟨(x / 1024 % ((NR ns).length:Int)).toNat,by lia,by lia⟩
 show Zd 5 (V.int (x / 1024 % ((NR ns).length:Int))) _ _ _
 rw [hs0]
 refine ⟨_,rfl,_,rfl,lw,ln,ks,top,ns,rfl,hW,hF,hN.at',hA,hpos,h200,fun lt H1 us ts g1 hlt hts htl hok=>?_⟩
 have hul:=hts.length
 obtain ⟨u0,hu0,hut0⟩:=hts.get (List.getElem?_eq_getElem (show s0 < ts.length by lia))
 have hn0:=List.getElem?_eq_getElem hs1
 obtain ⟨k1,k2,_⟩:=hok s0 _ _ hn0 (List.getElem?_eq_getElem (show s0 < ts.length by lia))
 refine ⟨_,rfl,_,rfl,_,rfl,lt,us,_,u0,rfl,rfl,hlt,Qv hu0,_,rfl,_,rfl,c,rfl,fun gmk=>⟨lm,nm,u0,_,x,gmk,rfl,g1.seq hlm,h8,hut0,(MS hF.ok k1).bs,by have:=LR hF.ok k1;lia,fun v1 t1 H2 g2 hv1 hl1=>?_⟩⟩
 have hN2:=hN.same (g1.trans g2)
 have hts2:TrAll K H2 us ts:=hts.mono fun _ _=>g2.seqT
 have hlt2:=g2.seq hlt
 refine ⟨_,rfl,_,rfl,by lia,by lia,fun pr hpr=>⟨pr,_,rfl,Qb,by lia,by lia,?_⟩⟩
 have k2':=Qf hpr (.rng 0 (s0:Int))
 have hN3:=hN2.same k2'
 have hts3:TrAll K _ us ts:=hts2.mono fun _ _=>k2'.seqT
 have hlt3:=k2'.seq hlt2
 have hv3:TrV K _ v1 t1:=hv1.mono fun _ _=>k2'.seqT
 have gH3:=(g1.trans g2).trans k2'
 generalize upd H2 pr (.rng 0 (s0:Int))=H3 at hN3 hts3 hlt3 hv3 gH3 ⊢
 rw [Int.toNat_natCast]
 refine U5 (hi:=(s0:Int) - 1) (n:=s0) (fun i σ H'=>∃ (c8 c9:Option V) (sp:Nat) (n:Nd) (v:V) (t:Tree Str),σ=[some (.ref lw),some (.ref ln),some (.ref lm),some (.int c),some (.int x),some (.int (sp:Int)),some (.ref lt),some v,c8,c9]∧ns[sp]?=some n∧TrV K H' v t∧lv t + n.lv≤top + 2∧Same H3 H')
  ⟨none,none,s0,_,v1,t1,rfl,hn0,hv3,by lia,Same.refl _⟩ ?_ ?_
 ·rintro i σ H4 hi ⟨c8,c9,sp,n,v,t,rfl,hn,hv,hlv,g4⟩
  obtain ⟨k,ek,hk1⟩ : ∃ k:Nat,(s0:Int) - 1 - (i:Int)=(k:Int)∧k < ns.length:=⟨s0 - 1 - i,by lia,by lia⟩
  rw [ek]
  have hnk:=List.getElem?_eq_getElem hk1
  generalize ns[k]=nk at hnk
  have hN4:=hN3.same g4
  refine ⟨_,rfl,_,rfl,_,rfl,ln,_,_,_,rfl,rfl,hN4.at'.l,Zq hnk,nk.a,_,4,_,rfl,rfl,hN4.at'.a _ _ hnk,rfl,nk.cl,_,rfl,.inl (hN4.at'.c _ _ hnk),rfl,M8 _,_,rfl,?_⟩
  rw [if_neg (27:),Oj]
  refine Zt (fun hin=>?_) (fun _=>⟨_,_,sp,n,v,t,rfl,hn,hv,hlv,g4⟩)
  have hin':sp ∈ nk.ch:=of_decide_eq_true hin
  obtain ⟨j,hj,hjm⟩:=Wo hin'
  have hAk:=hA _ _ hnk
  obtain ⟨r,hrow⟩ : ∃ r,nk.row=some r:=by
   cases e:nk.row with
   | none=>rw [hAk.no e] at hin';exact (nomatch hin')
   | some r=>exact ⟨r,rfl⟩
  obtain ⟨hr1,hr2,hkid⟩:=hAk.ro r hrow
  have hcl4:nk.ch.length≤4:=by
   rw [hr2];unfold wOf;rw [hrow]
   exact (Z8 hF.ok nk.kd).kl r hr1
  have lvl:∀ (b d:Nat),nk.ch[b]?=some d→∃ m,ns[d]?=some m∧m.lv=nk.lv + 1:=fun b d hb=>by
   obtain ⟨_,kk,h2,_⟩:=hkid b d hb
   unfold sg at h2
   rw [List.getElem?_map] at h2
   cases em:ns[d]? with
   | none=>rw [em] at h2;cases h2
   | some m =>
    rw [em] at h2
    have:=Option.some.inj h2
    exact ⟨m,rfl,congrArg Prod.snd this⟩
  have hnlv:n.lv=nk.lv + 1:=by
   obtain ⟨m,h1,h2⟩:=lvl j sp hj
   rw [hn] at h1
   rw [Option.some.inj h1];exact h2
  have hlt4:=g4.seq hlt3
  have hts4:TrAll K H4 us ts:=hts3.mono fun _ _=>g4.seqT
  refine ⟨_,rfl,_,rfl,ln,_,_,_,rfl,rfl,hN4.at'.l,Zq hnk,nk.a,_,4,_,rfl,rfl,hN4.at'.a _ _ hnk,rfl,nk.cl,rfl,⟨_,hN4.at'.c _ _ hnk⟩,fun acc hacc=>?_⟩
  refine Ys (K:=K) (xs:=NI nk.ch) (cs:=[some (.ref lt)]) (tt:=fun _ H Q=>Q true H) (fun j ys H'=>∃ bs:List (Tree Str),TrAll K H' ys bs∧bs.length=j∧(∀ b ∈ bs,lv b + nk.lv≤top)∧H' acc=some (.lst ys)∧Same H4 H')
   ⟨[],.nil,rfl,fun b hb=>(nomatch hb),Qb,Qf hacc _⟩ ?_ ?_ ?_
  ·rintro j ys H' _ ⟨_,_,_,_,_,g⟩
   exact (hN4.same g).at'.c _ _ hnk
  ·rintro j' y ys H5 hj' hy ⟨bs,hbs,hbl,hbv,hya,g5⟩
   have hjc:j' < nk.ch.length:=by simpa using hj'
   obtain ⟨m,hm1,hm2⟩:=lvl j' nk.ch[j'] (List.getElem?_eq_getElem hjc)
   obtain rfl:y=.int ((nk.ch[j']:Nat):Int):=by
    rw [List.getElem?_map,List.getElem?_eq_getElem hjc] at hy
    exact (Option.some.inj hy).symm
   have hdl:nk.ch[j'] < ts.length:=by have:=(List.getElem?_eq_some_iff.mp hm1).1;lia
   obtain ⟨u,hu,hut⟩:=hts4.get (List.getElem?_eq_getElem hdl)
   obtain ⟨_,hlu,_⟩:=hok _ _ _ hm1 (List.getElem?_eq_getElem hdl)
   have hbsl:=hbs.length
   refine QZ ⟨_,rfl,_,rfl,lt,us,_,u,rfl,rfl,g5.seq hlt4,Qv hu,?_⟩
   refine QB hj' hya (10:) ⟨bs ++ [ts[nk.ch[j']]],TrAll.append (hbs.mono fun _ _ h=>h.put hya) (.cons (hut.mono fun _ _ h=>(g5.seqT h).put hya) .nil),by simp [hbl],fun b hb=>?_,Qb,fun z o e=>by rw [Qg (Qi e hacc)];exact g5 _ _ e⟩
   rcases List.mem_append.mp hb with z | z
   ·exact hbv b z
   ·rw [List.mem_singleton.mp z];lia
  rintro ys H5 ⟨bs,hbs,hbl,hbv,hya,g5⟩
  rw [List.length_map] at hbl
  have hbsl:=hbs.length
  have hN5:=hN4.same g5
  have hjl:=(List.getElem?_eq_some_iff.mp hj).1
  have hcl5:=hN5.hc _ _ hnk
  rw [NP] at hcl5
  refine ⟨_,rfl,_,rfl,_,rfl,_,rfl,ln,_,_,_,rfl,rfl,hN5.at'.l,Zq hnk,nk.a,_,4,_,rfl,rfl,hN5.at'.a _ _ hnk,rfl,.inl ⟨rfl,_,hN5.at'.c _ _ hnk⟩,_,rfl,nk.cl,_,_,j,rfl,rfl,hcl5,by rw [List.length_map];lia,by rw [List.getElem?_map,hj];rfl,fun i hi e=>?_,acc,ys,_,j,rfl,rfl,hya,YV (10:),?_⟩
  ·rw [List.getElem?_map] at e
   cases e2:nk.ch[i]? with
   | none=>rw [e2] at e;cases e
   | some d =>
    rw [e2] at e
    have e3:(d:Int)=(sp:Int):=Option.some.inj e
    exact hjm i hi (by rw [e2];congr 1;lia)
  have kk:∀ a xs,SqT K H5 a xs→SqT K (upd H5 acc (.lst (ys.set j v))) a xs:=fun a xs h=>h.put hya
  have g6:Same H4 (upd H5 acc (.lst (ys.set j v))):=fun z o e=>by rw [Qg (Qi e hacc)];exact g5 _ _ e
  have hac6:(upd H5 acc (.lst (ys.set j v))) acc=some (.lst (ys.set j v)):=Qb
  have hv6:TrV K _ v t:=hv.mono fun _ _=>g6.seqT
  have hbs6:TrAll K _ ys bs:=hbs.mono kk
  generalize upd H5 acc (.lst (ys.set j v))=H6 at g6 hac6 hv6 hbs6 ⊢
  obtain ⟨uk,huk,hutk⟩:=hts4.get (List.getElem?_eq_getElem (show k < ts.length by lia))
  have hlt6:=g6.seq hlt4
  have hutk6:TrV K H6 uk ts[k]:=hutk.mono fun _ _=>g6.seqT
  generalize ts[k]=tk at hutk6
  cases hutk6 with
  | @mk a b ws cs name mark a1 a2 a3 a4 =>
  refine ⟨_,rfl,_,rfl,lt,us,_,_,rfl,rfl,hlt6,Qv huk,a,_,0,_,rfl,rfl,a1,rfl,_,rfl,_,rfl,lt,us,_,_,rfl,rfl,hlt6,Qv huk,a,_,1,_,rfl,rfl,a1,rfl,_,rfl,acc,_,rfl,.inl ⟨SqL.of hac6,fun pt hpt=>⟨(21:),fun pr2 hpr2=>?_⟩⟩⟩
  have e1:=Qf hpt (.tup (ys.set j v))
  have e2:=Qf hpr2 (.tup [.str name,.int mark,.ref pt])
  have e12:=e1.trans e2
  refine ⟨_,rfl,_,_,k,nk,_,.node name mark (bs.set j t),rfl,hnk,.mk (SqT.of Qb) (e2.seqT (SqT.of Qb)) (WW (hv6.mono fun _ _=>e12.seqT) j (hbs6.mono fun _ _=>e12.seqT)) (by rw [List.length_set];lia),?_,g4.trans (g6.trans e12)⟩
  have hl2:=hAk.l2
  have:lvs (bs.set j t)≤top + 1 - nk.lv:=XL fun u hu=>by
   rcases List.mem_or_eq_of_mem_set hu with z | z
   ·have:=hbv u z;lia
   ·rw [z];lia
  simp only [lv];lia
 ·rintro σ H4 ⟨c8,c9,sp,n,v,t,rfl,hn,hv,hlv,g4⟩
  have:=(hA _ _ hn).l1
  exact ⟨_,rfl,q v t H4 (gH3.trans g4) hv (10:)⟩
end
end K25
namespace K25
open PySem L2 TM TT K9 K11
theorem Oi (xs:List V) (a b:Nat):cutV xs (some (a:Int)) (some (b:Int))=(xs.drop (min a xs.length)).take (min b xs.length - min a xs.length):=by
 unfold cutV
 rw [HT.sIx_nat,HT.sIx_nat]
theorem GX (cs:List Int) (a b:Nat):∃ ds:List Int,cutV (cs.map V.int) (some (a:Int)) (some (b:Int))=ds.map V.int∧ds.length≤b - a:=by
 refine ⟨(cs.drop (min a cs.length)).take (min b cs.length - min a cs.length),?_,?_⟩
 ·rw [Oi,List.length_map,List.map_take,List.map_drop]
 ·rw [List.length_take,List.length_drop]
  lia
theorem VG {α β:Type} (f:α→β→Bool):∀ {as:List α} {bs:List β},(∀ (j:Nat) a b,as[j]?=some a→bs[j]?=some b→f a b=true)→(List.zipWith f as bs).all id=true
 | [],_,_=>by simp
 | a :: as,[],_=>by simp
 | a :: as,b :: bs,h=>by
  simp only [List.zipWith_cons_cons,List.all_cons,id,Bool.and_eq_true]
  exact ⟨h 0 a b rfl rfl,VG f fun j a' b' h1 h2=>h (j + 1) a' b' (by simpa using h1) (by simpa using h2)⟩
theorem Lr {ks:List KdT} {own:List Str} {m:MdT} (hW:WF ks) (h:MF ks own m):ZN ks own m.md=true:=by
 obtain ⟨kd,hkd,ekd⟩:=List.mem_map.mp h.kd
 obtain ⟨er,_⟩:=UT hW.ok hkd
 have hne:(Qy ks m.2.1).length≠0:=by
  rw [← ekd,er]
  obtain ⟨r,hr,_⟩:=(hW.kf kd hkd).bare
  intro z
  rw [List.length_eq_zero_iff.mp z] at hr
  cases hr
 unfold ZN
 simp only [Bool.and_eq_true,decide_eq_true_eq]
 exact ⟨⟨hne,h.rf.1⟩,VG _ fun j r t h1 h2=>(h.rf.2 j r t h1 h2).fit⟩
theorem O2 {ks:List KdT} {own:List Str} {m:MdT} (h:MF ks own m):∀ t ∈ m.2.2.2.2,MOk 6 t:=fun t ht=>by
 obtain ⟨j,hj,e⟩:=List.getElem_of_mem ht
 have hl:=h.rf.1
 exact (h.rf.2 j _ t (List.getElem?_eq_getElem (10:)) (by rw [List.getElem?_eq_getElem hj,e])).mok
def Z2 (p:Str × List PNx):PyData:=.tuple [.str p.1,.list (p.2.map Zz)]
theorem XY {K:PySem.W.Frag} {H:Hp}:∀ {ks:List KdT},(∀ k ∈ ks,SqT K H k.1 [.str k.2.1,.ref k.2.2.1]∧RowsL K H k.2.2.1 k.2.2.2)→RdAll K H (ks.map fun k=>V.ref k.1) ((ks.map Ze).map Z2)
 | [],_=>.nil
 | k :: r,h=>.cons (.tup (h k List.mem_cons_self).1 (.cons (.str _) (.cons (.lst (h k List.mem_cons_self).2.1 (Xm (h k List.mem_cons_self).2.2)) .nil))) (XY fun u hu=>h u (38:))
theorem JM:∀ {ks:List KdT},(∀ k ∈ ks,PyData.strOk k.2.1=true)→(∀ k ∈ ks,RowsOk k.2.2.2)→PyData.canLayAll0 ((ks.map Ze).map Z2)=true
 | [],_,_=>by simp [PyData.canLayAll0]
 | k :: r,h1,h2=>by
  have h3:PyData.canLayAll0 (k.2.2.2.map Zz)=true:=UU (h2 k List.mem_cons_self).nm (h2 k List.mem_cons_self).kn
  simp only [List.map_cons,PyData.canLayAll0,Z2,Ze,PyData.canLay0,h1 k List.mem_cons_self,h3,Bool.and_self,Bool.true_and]
  exact JM (fun u hu=>h1 u (38:)) fun u hu=>h2 u (38:)
theorem Js:∀ rs:List PNx,PyData.depthAll (rs.map Zz)≤2
 | []=>by simp [PyData.depthAll]
 | r :: rs=>by
  have:=Js rs
  simp only [List.map_cons,PyData.depthAll,Zz,PyData.depth,Yx]
  lia
theorem Ue:∀ ks:List (Str × List PNx),PyData.depthAll (ks.map Z2)≤4
 | []=>by simp [PyData.depthAll]
 | k :: r=>by
  have h1:=Ue r
  have h2:=Js k.2
  simp only [List.map_cons,PyData.depthAll,Z2,PyData.depth]
  lia
def mdd (m:Md):PyData:=.tuple [.str m.1,.list (Uk m.2)]
theorem Wv {K:PySem.W.Frag} {H:Hp}:∀ {ms:List MdT},(∀ m ∈ ms,MdAt K H m)→RdAll K H (47:) ((mds ms).map mdd)
 | [],_=>.nil
 | m :: r,h=>.cons (.tup (h m List.mem_cons_self).1 (.cons (.str _) (.cons (.lst (h m List.mem_cons_self).2.1 (h m List.mem_cons_self).2.2.rd) .nil))) (Wv fun x hx=>h x (List.mem_cons_of_mem _ hx))
theorem JQ:∀ {ms:List MdT},(∀ m ∈ ms,PyData.strOk m.2.1=true∧∀ t ∈ m.2.2.2.2,MOk 6 t)→PyData.canLayAll0 ((mds ms).map mdd)=true∧PyData.depthAll ((mds ms).map mdd)≤12
 | [],_=>by simp [PyData.canLayAll0,PyData.depthAll]
 | m :: r,h=>by
  obtain ⟨h1,h2⟩:=JQ fun x hx=>h x (List.mem_cons_of_mem _ hx)
  obtain ⟨h5,hm⟩:=h m List.mem_cons_self
  obtain ⟨h3,h4⟩:=Xi (d:=6) m.2.2.2.2 hm
  have h5':PyData.strOk m.md.1=true:=h5
  have h3':PyData.canLayAll0 (Uk m.md.2)=true:=h3
  have h4':PyData.depthAll (Uk m.md.2)≤6:=h4
  constructor
  ·simp only [List.map_cons,PyData.canLayAll0,mdd,PyData.canLay0,h5',h3',h1,Bool.and_self]
  ·have e:(mds (m :: r)).map mdd=mdd m.md :: (mds r).map mdd:=rfl
   rw [e]
   have e2:PyData.depthAll (mdd m.md :: (mds r).map mdd)=max (mdd m.md).depth (PyData.depthAll ((mds r).map mdd)):=by simp only [PyData.depthAll]
   have e3:(mdd m.md).depth≤11:=by simp only [mdd,PyData.depth,PyData.depthAll];lia
   rw [e2]
   lia
abbrev Jm (ks:List KdT) (t:Tm) (ms:List MdT):PyData:=.tuple [.list ((ks.map Ze).map Z2),tmd t,.list ((mds ms).map mdd)]
theorem VW {K:PySem.W.Frag} {H:Hp} {tu wd lm:Addr} {sv:V} {ms:List MdT} {T:Tu} (h:TurnAt K H tu wd lm sv ms T):RdV K H (.ref tu) (Jm T.ks T.start ms) :=
 .tup h.tu (.cons (.lst h.w.1 (XY h.w.2)) (.cons h.s.rd (.cons (.lst h.m.1 (Wv h.m.2)) .nil)))
theorem Lh {ks:List KdT} {t:Tm} {ms:List MdT} (hW:WF ks) (ht:MOk 6 t) (hm:∀ m ∈ ms,PyData.strOk m.2.1=true∧∀ t ∈ m.2.2.2.2,MOk 6 t):(Jm ks t ms).canLay0=true∧(Jm ks t ms).depth≤20:=by
 have a1:=JM hW.nm fun k hk=>(hW.kf k hk).ok
 have a2:=Ue (ks.map Ze)
 obtain ⟨b1,b2⟩:=ht
 obtain ⟨c1,c2⟩:=JQ hm
 constructor
 ·simp only [PyData.canLay0,PyData.canLayAll0,a1,b1,c1,Bool.and_self]
 ·simp only [PyData.depth,PyData.depthAll]
  lia
theorem O4 {ks:List KdT} {own:List Str} {ms:List MdT} (h:∀ m ∈ ms,MF ks own m):∀ md ∈ mds ms,∀ u ∈ md.2,lv u≤8∧sz u≤100:=fun md hmd u hu=>by
 obtain ⟨m,hm,rfl⟩:=List.mem_map.mp hmd
 have hf:=(h m hm).rf
 obtain ⟨j,hj,e⟩:=List.getElem_of_mem hu
 have hj':j < m.2.2.2.2.length:=hj
 have hl:=hf.1
 have:=hf.2 j _ u (List.getElem?_eq_getElem (10:)) ((List.getElem?_eq_getElem hj).trans (congrArg some e))
 have h1:=this.lv
 have h2:=this.sz
 exact ⟨by lia,Nat.le_trans h2 (27:)⟩
end K25
namespace L2
open PySem PySem.Spec PyProof.Rows
section
variable {X:Cx} {st:Stmt} {rest a b:List Stmt} {t u:TS} {e c:Expr} {es:List Expr} {te:TE} {ta:TA} {tc:TT} {pos:Pos}
end
end L2
namespace L2
open PySem PySem.Spec PyProof.Rows
section
variable {X:Cx} {p0 p1 p2 p3 p4 p5:Pos}
end
section
variable {X:Cx} {p0 p1 p2 p3 p4:Pos} {e1 e2 e3 e4:Expr} {t1 t2 t3 t4:TE}
end
end L2
namespace K25
open PySem L2 TM TT K9 K11
def Vo (K:PySem.W.Frag) (A1 A2 A3:Addr):Sp:=fun vs H Q _=>∃ (a:Addr) (ns:List Int),vs=[.ref a]∧SqL K H a (ns.map V.int)∧ns.length≤63∧A1≠A2∧A1≠A3∧A2≠A3∧H A1=some (.tbl #[])∧H A2=some (.tbl #[])∧H A3=some (.tbl #[])∧∀ H',Q (.bl true) H'
theorem Sg {t:TS} {nx:L2.St→Hp→Prop} {rt:VK} {bk ct:L2.St→Hp→Prop} {σ:L2.St} {H:Hp} (R:L2.St→Hp→Prop) (h:t ⟨R,rt,bk,ct⟩ σ H) (k:∀ σ' H',R σ' H'→nx σ' H'):Rr t ⟨nx,rt,bk,ct⟩ σ H:=⟨R,h,k⟩
abbrev Sd:List Str:=["_law_script", "_law_names_here", "_law_wood_here", "_law_turning_here", "_law_nodes", "_law_tree", "_law_spoiled_here", "_law_handed", "_law_mode", "_law_kind", "_law_ask", "_law_needed", "_law_one"]
section
variable {P:Program} {w:World} {K:PySem.W.Frag} {mg:Str→Option Value} {base:Heap} {f:Addr} {fd:FuncData}
theorem ZH:FnScope Sd ["_law_script"] (defScope Wt):=(1:)
theorem Pc {A1 A2 A3:Addr} (F:Fun K "law" "law" Wt f fd) (G:Gm mg) (RC:Fn P w K mg base 1 "_law_cell_at" ["_law_script", "_law_k"] (Xk K)) (RN':Fn P w K mg base 2 "_law_names" ["_law_cell"] (XS K)) (RW:Fn P w K mg base 2 "_law_wood" ["_law_cell", "_law_names_here"] (W2 K)) (RT:Fn P w K mg base 5 "_law_turning" ["_law_script", "_law_wood_here", "_law_names_here"] (Y0 K)) (RG:Fn P w K mg base 3 "_law_grown" ["_law_wood_here", "_law_cells", "_law_top"] (Xu K)) (RB:Fn P w K mg base 2 "_law_built" ["_law_wood_here", "_law_nodes"] (UA K)) (RP:Fn P w K mg base 3 "_law_respelled" ["_law_wood_here", "_law_nodes", "_law_names_here", "_law_cell"] (Vc K)) (RK:Fn P w K mg base 1 "_law_copy" ["_law_turning_here"] (WP K)) (RX:Fn P w K mg base 1 "_law_mixed" ["_law_cell", "_law_k"] Q8) (RO:Fn P w K mg base 13 "_law_of_kind" ["_law_wood_here", "_law_kind", "_law_tree"] (WE K 12)) (RR:Fn P w K mg base 59 "_law_right" ["_law_turning_here", "_law_mode", "_law_tree", "_law_ask", "_law_due"] (Xq K A1 A2 A3)) :
 FnOk P w K mg base CX0 60 f fd ["_law_script"] (Vo K A1 A2 A3):=by
 refine F.ok ZH (8:) (4:)
 ·obtain ⟨a,cs,rfl,_⟩:=h
  rfl
 obtain ⟨a,cs,rfl,hS,h63,n12,n13,n23,ht1,ht2,ht3,q⟩:=h
 have room:∀ m:Nat,m≤64→(A.deeper (PyProof.Rows.envOfC "law" (defScope Wt) s.heap.objs.size f cdv)).units + m < cLine:=fun m hm=>by have:=hr.units;lia
 refine ⟨_,(Qe (Qn (i:=1) ZH.nd rfl (12:) (Qq RN' hr (Qa (Qq RC hr (Qa (pv 0) (Qa (Qd) Qc))) Qc)))
  (Qe (Qn (i:=2) ZH.nd rfl (12:) (Qq RW hr (Qa (Qq RC hr (Qa (pv 0) (Qa (Qd) Qc))) (56:))))
  (Qe (Qn (i:=3) ZH.nd rfl (12:) (Qq RT hr (Qa (pv 0) (Qa (pv 2) (56:)))))
  (Qe (Qn (i:=4) ZH.nd rfl (12:) (Qq RG hr (Qa (pv 2) (Qa (YN Uy (pv 0) (YU Qd) (YU Qd)) (Qa (Qd) Qc)))))
  (Qe (Qn (i:=5) ZH.nd rfl (12:) (Qj Qm (Qq RB hr (Qa (pv 2) (Qa (pv 4) Qc))) Qd (2:)))
  (Qe (Qn (i:=6) ZH.nd rfl (12:) (Qq RP hr (Qa (pv 2) (Qa (pv 4) (Qa (pv 1) (Qa (Qq RC hr (Qa (pv 0) (Qa (Qd) Qc))) Qc))))))
  (Qe (Qn (i:=7) ZH.nd rfl (12:) (Qq RK hr (Qa (pv 3) Qc)))
  (Qe (Qn (i:=8) ZH.nd rfl (12:) (Ql Qs (Qq RX hr (Qa (Qq RC hr (Qa (pv 0) (Qa (Qd) Qc))) (Qa (Qd) Qc))) (Qr Qo rfl G.len PySem.boot_len (Qa (Qj Qk (pv 3) Qd (2:)) Qc))))
  (Qe (Qn (i:=9) ZH.nd rfl (12:) (Qj Qk (Qj Qm (Qj Qk (pv 3) Qd (2:)) (pv 8) (2:)) Qd (2:)))
  (Qe (QU PassesOwn.never rfl (QX rfl G.rng (Qa (Qd) Qc)) (QC (i:=10) ZH.nd rfl (12:)) (Qe (ZS (Qn (i:=11) ZH.nd rfl (12:) (Qj Qm (QF (Qa (Qj Qk (Qj Qm (pv 2) Qd (2:)) Qd (2:)) (Qa (pv 9) Qc))) (Ql QG (pv 10) Qd) (2:))))
  (Qh (QU PassesOwn.never rfl (QT (QF (Qa (pv 6) (Qa (pv 5) Qc)))) (QC (i:=12) ZH.nd rfl (12:)) (Qh
   (QL (J4 (ZW (Qq RR hr (Qa (pv 7) (Qa (pv 8) (Qa (pv 12) (Qa (pv 10) (Qa (Lv (Qq RO hr (Qa (pv 2) (Qa (pv 11) (Qa (pv 12) Qc))))) Qc)))))))) (Qh (Qp ZK)) Qu))))))
  (Qh (Qp (Yk LU (pv 7) (pv 3) (QA _)))))))))))))),?_⟩
 refine ⟨_,rfl,a,cs,0,rfl,by decide,hS,fun c0=>⟨c0,rfl,fun ln H1 nn g1 hln hn8 hnd hnok hnln=>?_⟩⟩
 refine ⟨_,rfl,a,cs,1,rfl,by decide,g1.seq hS,fun c1=>⟨_,rfl,c1,ln,nn,rfl,SqL.of hln,hn8,hnd,hnok,fun lw H2 ks g2 hW hWF hkin=>?_⟩⟩
 have g12:=g1.trans g2
 refine ⟨_,rfl,_,rfl,_,rfl,a,cs,lw,ln,ks,nn,rfl,g12.seq hS,hW,hWF,SqL.of (g2 _ _ hln),hn8,hnok,fun tu lm sv H3 ms t k0 g3 htu hlm hms hm0 hm4 hk0 hsv hTF=>?_⟩
 have g13:=g12.trans g3
 have hW3:=hW.same g3
 have hrep:∀ k ∈ ks,(reprText k.2.1).length≤1000:=fun k hk=>(hnln _ (hkin k hk)).rep
 obtain ⟨T,hTd⟩ : ∃ T:Tu,T=⟨ks,k0.2.1,t,mds ms⟩:=(54:)
 have hTk:T.ks=ks:=by rw [hTd]
 have hTs:T.start=t:=by rw [hTd]
 have hTm:T.ms=mds ms:=by rw [hTd]
 have hT0:T.k0=k0.2.1:=by rw [hTd]
 have hO:TurnOk ms T:=by
  refine ⟨by rw [hTk];exact hWF.ok,hTm.symm,⟨fun m hm=>?_,by rw [hTm,hT0,hTs];exact hTF.fit⟩,⟨k0,by rw [hTk];exact hk0,hT0.symm⟩⟩
  rw [hTm] at hm
  obtain ⟨m',hm',rfl⟩:=List.mem_map.mp hm
  rw [hTk,hTm]
  exact Lr hWF (hms m' hm').2
 have hTB:TBd T:=by
  intro md hmd u hu
  rw [hTm] at hmd
  exact O4 (fun m hm=>(hms m hm).2) md hmd u hu
 have hls:lv T.start≤8:=by rw [hTs];have:=hTF.lv;lia
 have hss:sz T.start≤100:=by rw [hTs];exact Nat.le_trans hTF.sz (27:)
 have hr0:(reprText T.k0).length≤1000:=by rw [hT0];exact hrep k0 (List.mem_of_getElem? hk0)
 have hkm:∀ m ∈ ms,∃ k ∈ ks,k.2.1=m.2.1:=fun m hm=>List.mem_map.mp (hms m hm).2.kd
 have hrm:∀ m ∈ ms,(reprText m.2.1).length≤1000:=fun m hm=>by
  obtain ⟨k,hk,e⟩:=hkm m hm
  rw [← e];exact hrep k hk
 have hT3:TurnAt K H3 tu lw lm sv ms T:=⟨htu,by rw [hTk];exact hW3,⟨SqL.of hlm,fun m hm=>(hms m hm).1.at⟩,by rw [hTs];exact hsv⟩
 have hmo:∀ m ∈ ms,PyData.strOk m.2.1=true∧∀ t ∈ m.2.2.2.2,MOk 6 t:=fun m hm=>by
  obtain ⟨k,hk,e⟩:=hkm m hm
  exact ⟨by rw [← e];exact hWF.nm k hk,O2 (hms m hm).2⟩
 obtain ⟨tl1,tl2⟩:=Lh hWF hTF.mok hmo
 obtain ⟨ds,hds,hdl⟩:=GX cs 16 76
 refine ⟨_,rfl,_,rfl,_,rfl,_,rfl,a,_,rfl,g13.seq hS,fun l1 hl1=>?_⟩
 have hds':cutV (cs.map V.int) (some 16) (some 76)=ds.map V.int:=hds
 have k4:=Qf hl1 (.lst (cutV (cs.map V.int) (some 16) (some 76)))
 have hl14:upd H3 l1 (.lst (cutV (cs.map V.int) (some 16) (some 76))) l1=some (.lst (ds.map V.int)):=by rw [Qb,hds']
 refine ⟨lw,l1,ks,ds,10,k0,rfl,hW3.same k4,hWF,hk0,SqL.of hl14,hdl,by decide,by decide,fun lnod lb H4 H5 ns bare k45 hGH hA hns0 hns1 hnf=>?_⟩
 have g35:=k4.trans (k45.trans hGH.sm)
 have hN5:NdsAt K H5 lnod ns:=hGH.at
 refine ⟨_,rfl,_,rfl,lw,lnod,ks,10,ns,rfl,hW3.same g35,hWF,hN5,hA,hns0,hns1,fun lt H6 us ts g6 hlt hus htl hok=>?_⟩
 have g36:=g35.trans g6
 obtain ⟨n0,hn0,hnk⟩:=hnf
 obtain ⟨t0,ht0⟩ : ∃ t0,ts[0]?=some t0:=⟨_,List.getElem?_eq_getElem (show 0 < ts.length by rw [htl];exact hns0)⟩
 obtain ⟨tv,htv,htr⟩:=hus.get ht0
 obtain ⟨hti,htlv,_⟩:=hok 0 n0 t0 hn0 ht0
 refine ⟨lt,us,0,tv,rfl,rfl,hlt,Qv (j:=0) htv,?_⟩
 have hX6:NdX K H6 lnod ns:=NdX.same g6 ⟨hN5,hGH.hc⟩
 refine ⟨_,rfl,_,rfl,_,rfl,_,rfl,a,cs,3,rfl,by decide,(g13.trans g36).seq hS,fun c3=>⟨lw,lnod,ln,ks,10,ns,nn,c3,rfl,hW3.same g36,hWF,hX6,hA,hns0,hns1,SqL.of ((g2.trans (g3.trans g36)) _ _ hln),hn8,fun sv6 t6 H7 g7 hv6 hl6=>?_⟩⟩
 have g37:=g36.trans g7
 have hT7:=hT3.same g37
 refine ⟨_,rfl,tu,lw,lm,sv,ms,T,rfl,hT7,hO.wo,by lia,fun tu2 wd2 lm2 hs ms2 H8 g8 hT8 hkey hmd=>?_⟩
 have hO2:TurnOk ms2 { T with ks:=hs }:=hO.of hkey hmd
 obtain ⟨T2,hT2⟩ : ∃ T2:Tu,T2={ T with ks:=hs }:=(54:)
 have hrow2:QD T2.ks=QD T.ks:=by rw [hT2];exact Ng hkey
 have hk02:T2.k0=T.k0:=by rw [hT2]
 have hst2:T2.start=T.start:=by rw [hT2]
 have hms2:T2.ms=T.ms:=by rw [hT2]
 have hTB2:TBd T2:=by
  intro md hmd' u hu
  rw [hms2] at hmd'
  exact hTB md hmd' u hu
 have hm2l:ms2.length≤10:=by
  have:=congrArg List.length hmd
  rw [List.length_map,List.length_map] at this
  lia
 have hksT2:T2.ks.map Ze=T.ks.map Ze:=by rw [hT2];exact hkey
 rw [← hT2] at hT8 hO2
 clear hT2
 have g08:=(g13.trans g37).trans g8
 have hT8':=hT7.same g8
 have tb8:Tb3 A1 A2 A3 H8:=⟨.inl (g08 _ _ ht1),.inl (g08 _ _ ht2),.inl (g08 _ _ ht3)⟩
 have mo:∀ {Hx:Hp},SX3 A1 A2 A3 H8 Hx→Mo K H8 Hx:=fun x=>tb8.mo x
 have rdy:Rdy T2:=⟨by rw [hst2];exact hls,by rw [hst2];exact hss,by rw [hk02];exact hr0⟩
 have htrA:TrV K H8 tv t0:=htr.mono fun _ _=>(g7.trans g8).seqT
 have hv8:TrV K H8 sv6 t6:=hv6.mono fun _ _=>g8.seqT
 have mml:(47:).length=ms.length:=List.length_map ..
 refine ⟨_,rfl,a,cs,2,rfl,by decide,g08.seq hS,fun c2=>⟨c2,9,rfl,by decide,by decide,fun x y0 y1=>⟨_,rfl,tu,_,2,_,rfl,rfl,hT8'.tu,rfl,lm,_,rfl,.inl hT8'.m.1,_,_,rfl,rfl,(by rw [mml];lia),?_⟩⟩⟩
 have hmp:(0:Int) < ((47:).length:Int):=by rw [mml];lia
 have z0:0≤x % ((47:).length:Int):=Int.emod_nonneg _ (10:)
 have z1:x % ((47:).length:Int) < ((47:).length:Int):=Int.emod_lt_of_pos _ hmp
 obtain ⟨i,hi,hil⟩ : ∃ i:Nat,x % ((ms.map fun m=>V.ref m.1).length:Int)=(i:Int)∧i < ms.length:=⟨(x % ((47:).length:Int)).toNat,by lia,by lia⟩
 show Zd 8 (V.int (x % ((47:).length:Int))) _ _ _
 rw [hi]
 have hmi:ms[i]?=some ms[i]:=List.getElem?_eq_getElem hil
 have hmm:=List.getElem_mem hil
 have hmA:=hT8'.m.2 ms[i] hmm
 have hat:atI (47:) (i:Int)=some (.ref ms[i].1):=Qv (by rw [List.getElem?_map,hmi];rfl)
 have hTmi:T.ms[i]?=some ms[i].md:=by rw [hTm,List.getElem?_map,hmi];rfl
 obtain ⟨m2,hm2,em2,_⟩:=hO2.get (i:=i) (by rw [hms2];exact hTmi)
 have ek2:m2.2.1=ms[i].2.1:=congrArg (fun d:Md=>d.1) em2
 refine ⟨_,rfl,tu,_,2,_,rfl,rfl,hT8'.tu,rfl,_,rfl,lm,_,_,_,rfl,rfl,hT8'.m.1,hat,ms[i].1,_,0,_,rfl,rfl,hmA.1,rfl,?_⟩
 have hwat:∀ {Hx:Hp},SX3 A1 A2 A3 H8 Hx→WoodAt K Hx lw ks:=fun x=>by have:=((mo x).turn hT8').w;rw [hTk] at this;exact this
 have hk0m:=List.mem_of_getElem? hk0
 have hatk:atI (ks.map fun k=>V.ref k.1) 0=some (.ref k0.1):=Qv (j:=0) (by rw [List.getElem?_map,hk0];rfl)
 refine ⟨_,rfl,(by show -(2 ^ 62:Int)≤6;decide),(by show (6:Int) < 2 ^ 62;decide),?_⟩
 refine ZJ (lo:=0) (n:=(6:Int).toNat) (fun j σ H'=>∃ c10 c11 c12:Option V,σ=[some (.ref a),some (.ref ln),some (.ref lw),some (.ref tu),some (.ref lnod),some tv,some sv6,some (.ref tu2),some (.int (i:Int)),some (.str ms[i].2.1),c10,c11,c12]∧SX3 A1 A2 A3 H8 H'∧Tb3 A1 A2 A3 H')
  ⟨none,none,none,rfl,SX3.of (Same.refl _),tb8⟩ ?_ ?_
 ·rintro j σ H9 hj ⟨c10,c11,c12,rfl,x9,tb9⟩
  have hj6:j < 6:=hj
  have ez:(0:Int)+(j:Int)=(j:Int):=by lia
  rw [ez]
  have hw9:=hwat x9
  refine Sg (fun σ' H'=>∃ kq:Str,σ'=[some (.ref a),some (.ref ln),some (.ref lw),some (.ref tu),some (.ref lnod),some tv,some sv6,some (.ref tu2),some (.int (i:Int)),some (.str ms[i].2.1),some (.int (j:Int)),some (.str kq),c12]∧((j:Int)≤3→kq=T2.k0)∧(4≤(j:Int)→kq=m2.2.1)∧(∃ k ∈ ks,k.2.1=kq)∧Same H9 H') ?_ ?_
  ·refine ⟨_,rfl,lw,_,0,_,rfl,rfl,hw9.1,hatk,k0.1,_,0,_,rfl,rfl,(hw9.2 k0 hk0m).1,rfl,_,rfl,(44:),fun l2 hl2=>?_⟩
   have e2:=Qf hl2 (.lst [.str k0.2.1,.str ms[i].2.1])
   by_cases h3:j≤3
   ·refine ⟨_,rfl,_,_,rfl,rfl,(13:),l2,_,_,.str k0.2.1,rfl,rfl,SqL.of Qb,?_,k0.2.1,rfl,fun _=>by rw [hk02,hT0],fun z=>absurd z (10:),⟨k0,hk0m,rfl⟩,e2⟩
    have:(j:Int) / 4=((0:Nat):Int):=by lia
    show atI [V.str k0.2.1,V.str ms[i].2.1] ((j:Int) / 4)=_
    rw [this]
    exact Qv rfl
   ·refine ⟨_,rfl,_,_,rfl,rfl,(13:),l2,_,_,.str ms[i].2.1,rfl,rfl,SqL.of Qb,?_,ms[i].2.1,rfl,fun z=>absurd z (10:),fun _=>ek2.symm,hkm _ hmm,e2⟩
    have:(j:Int) / 4=((1:Nat):Int):=by lia
    show atI [V.str k0.2.1,V.str ms[i].2.1] ((j:Int) / 4)=_
    rw [this]
    exact Qv rfl
  rintro σ' H10 ⟨kq,rfl,q3,q4,hkq,g10⟩
  have x10:=x9.trans (SX3.of g10)
  have tb10:=tb9.same g10
  refine ⟨_,rfl,_,rfl,(44:),fun l3 hl3=>⟨l3,rfl,⟨_,SqL.of Qb⟩,?_⟩⟩
  have e3:=Qf hl3 (.lst [sv6,tv])
  have x11:=x10.trans (SX3.of e3)
  have tb11:=tb10.same e3
  have hl3':SqL K (upd H10 l3 (.lst [sv6,tv])) l3 [sv6,tv]:=SqL.of Qb
  generalize upd H10 l3 (.lst [sv6,tv])=H11 at x11 tb11 hl3' ⊢
  refine ZF (K:=K) (xs:=[sv6,tv]) (fun n σ H'=>∃ c12:Option V,σ=[some (.ref a),some (.ref ln),some (.ref lw),some (.ref tu),some (.ref lnod),some tv,some sv6,some (.ref tu2),some (.int (i:Int)),some (.str ms[i].2.1),some (.int (j:Int)),some (.str kq),c12]∧SX3 A1 A2 A3 H11 H'∧Tb3 A1 A2 A3 H')
   ⟨_,rfl,SX3.of (Same.refl _),tb11⟩ ?_ ?_ ?_
  ·rintro n σ H' _ ⟨_,_,x,_⟩
   exact (tb11.mo x).l _ _ hl3'
  ·rintro n v σ H12 hn ⟨c12,rfl,x12,tb12⟩
   obtain ⟨tt,htt,hll⟩ : ∃ tt,TrV K H8 v tt∧lv tt≤12:=by
    have hv:v ∈ [sv6,tv]:=List.mem_of_getElem? hn
    rcases List.mem_cons.mp hv with e | e
    ·rw [e];exact ⟨t6,hv8,by lia⟩
    ·rw [List.mem_singleton.mp e]
     exact ⟨t0,htrA,by lia⟩
   have x:=x11.trans x12
   refine ⟨_,rfl,_,rfl,_,rfl,_,rfl,_,rfl,_,rfl,_,rfl,lw,kq,v,tt,ks,rfl,hwat x,hWF,hkq,htt.mono (mo x).t,hll,fun H13 g13'=>?_⟩
   have x13:=x.trans (SX3.of g13')
   have ask:Ask K H8 tu2 wd2 lm2 sv ms2 T2 v tt:=⟨hT8,hO2,hTB2,hm2l,htt,by lia⟩
   refine ⟨_,rfl,tu2,wd2,lm2,sv,ms2,T2,v,tt,i,m2,(j:Int),kq,by rw [hrow2,hTk];rfl,ask.mo (mo x13),rdy,hm2,by rw [ek2];exact hrm _ hmm,q3,q4,by lia,tb12.same g13',fun H14 x14 tb14=>⟨_,rfl,ZE ⟨_,rfl,x12.trans ((SX3.of g13').trans x14),tb14⟩⟩⟩
  ·rintro σ H12 ⟨c12,rfl,x12,tb12⟩
   exact ⟨_,_,_,rfl,x11.trans x12,tb12⟩
 rintro σ H11 ⟨c10,c11,c12,rfl,x11,tb11⟩
 have hdd:Jm T2.ks T2.start ms2=Jm T.ks T.start ms:=by
  show PyData.tuple [.list ((T2.ks.map Ze).map Z2),tmd T2.start,.list ((mds ms2).map mdd)]=_
  rw [hksT2,hst2,hmd]
 have hrd2:=VW ((mo x11).turn hT8)
 rw [hdd] at hrd2
 have hrd1:=VW ((mo x11).turn hT8')
 have hl:(Jm T.ks T.start ms).canLay0=true:=by rw [hTk,hTs];exact tl1
 have hd:(Jm T.ks T.start ms).depth≤20:=by rw [hTk,hTs];exact tl2
 refine ⟨_,rfl,_,rfl,_,_,hrd2,hrd1,hl,hl,room _ (Nat.le_trans (Nat.min_le_left _ _) (10:)),?_⟩
 rw [if_neg (27:),UJ _ hl]
 exact q H11
end
end K25
namespace L2
theorem ln1 {α:Type} {us:List α} (h:us.length=1):∃ a,us=[a]:=List.length_eq_one_iff.mp h
theorem ln2 {α:Type} {us:List α} (h:us.length=2):∃ a b,us=[a,b]:=by
 match us,h with
 | [a,b],_=>exact ⟨a,b,rfl⟩
theorem ln3 {α:Type} {us:List α} (h:us.length=3):∃ a b c,us=[a,b,c]:=by
 match us,h with
 | [a,b,c],_=>exact ⟨a,b,c,rfl⟩
theorem ln4 {α:Type} {us:List α} (h:us.length=4):∃ a b c d,us=[a,b,c,d]:=by
 match us,h with
 | [a,b,c,d],_=>exact ⟨a,b,c,d,rfl⟩
theorem ln5 {α:Type} {us:List α} (h:us.length=5):∃ a b c d e,us=[a,b,c,d,e]:=by
 match us,h with
 | [a,b,c,d,e],_=>exact ⟨a,b,c,d,e,rfl⟩
theorem ln6 {α:Type} {us:List α} (h:us.length=6):∃ a b c d e f,us=[a,b,c,d,e,f]:=by
 match us,h with
 | [a,b,c,d,e,f],_=>exact ⟨a,b,c,d,e,f,rfl⟩
end L2
namespace K25
open PySem L2
theorem all_mk {c1 T1:Addr} {c2 T2:Addr} {c3 T3:Addr} {l:PySem.W.OpenLaw} {w:World} {K:PySem.W.Frag} {h:Heap} {mg:Str→Option Value} {fa:Addr} (X:K.In h) (N:h.Ns mainGlobals mg) (hfa:mg "law" = some (.ref fa))
 (d1:DefAt K "is_call" PQ) (d2:DefAt K "calls_of" sCO) (d3:DefAt K "mark_put" sMP) (d4:DefAt K "put_head" sPH) (d5:DefAt K "has_number" sHN) (d6:DefAt K "rows_of" Xf) (d7:DefAt K "row_of" Vd) (d8:DefAt K "is_of" X4) (d9:DefAt K "need_of" Ur) (d10:DefAt K "need_in" UE) (d11:DefAt K "rule_of" Mm) (d12:DefAt K "outcome" OP) (d13:DefAt K "above" Va) (d14:DefAt K "reckoned" UY) (d15:DefAt K "called_below" Ms) (d16:DefAt K "filled" Jo) (d17:DefAt K "many" Vw) (d18:DefAt K "tall" Vx) (d19:DefAt K "many_by" Ym) (d20:DefAt K "tall_by" Yn) (d21:DefAt K "seen" VI) (d22:DefAt K "seen_in" Uv) (d23:DefAt K "seen_by" XI) (d24:DefAt K "first_put" WG) (d25:DefAt K "turned" Us) (d26:DefAt K "turned_in" Yg) (d27:DefAt K "turned_by" Zm) (d28:DefAt K "_law_cell_at" Lf) (d29:DefAt K "_law_mixed" WM) (d30:DefAt K "_law_names" W9) (d31:DefAt K "_law_great" WT) (d32:DefAt K "_law_wood" VP) (d33:DefAt K "_law_term" JG) (d34:DefAt K "_law_calls" WI) (d35:DefAt K "_law_turning" UR) (d36:DefAt K "_law_mark" MP) (d37:DefAt K "_law_grown" UW) (d38:DefAt K "_law_built" U0) (d39:DefAt K "_law_copy" LX) (d40:DefAt K "_law_of_kind" Me) (d41:DefAt K "_law_spoiled" Xd) (d42:DefAt K "_law_respelled" ML) (d43:DefAt K "_law_asked" J9) (d44:DefAt K "_law_right" WK) (d45:DefAt K "law" Wt)
 (z1:PySem.W.nsIn K mainGlobals "len" = some none) (z2:PySem.W.nsIn K mainGlobals "isinstance" = some none) (z3:PySem.W.nsIn K mainGlobals "int" = some none) (z4:PySem.W.nsIn K mainGlobals "bool" = some none) (z5:PySem.W.nsIn K mainGlobals "str" = some none) (z6:PySem.W.nsIn K mainGlobals "tuple" = some none) (z7:PySem.W.nsIn K mainGlobals "list" = some none) (z8:PySem.W.nsIn K mainGlobals "range" = some none) (z9:PySem.W.nsIn K mainGlobals "zip" = some none) (z10:PySem.W.nsIn K mainGlobals "dict" = some none) (z11:PySem.W.nsIn K mainGlobals "all" = some none) (z12:PySem.W.nsIn K mainGlobals "sorted" = some none) (z13:PySem.W.nsIn K mainGlobals "reversed" = some none) (z14:PySem.W.nsIn K mainGlobals "sum" = some none) (z15:PySem.W.nsIn K mainGlobals "max" = some none) (y1:PySem.W.nsIn K mainGlobals "ValueError" = some none)  (ht1:PySem.W.tabIn K "many_by" = some (c1,T1)) (hh1:PySem.W.codeHdIn K c1 T1=true) (ht2:PySem.W.tabIn K "tall_by" = some (c2,T2)) (hh2:PySem.W.codeHdIn K c2 T2=true) (ht3:PySem.W.tabIn K "turned_by" = some (c3,T3)) (hh3:PySem.W.codeHdIn K c3 T3=true) (ne12:T1≠T2) (ne13:T1≠T3) (ne23:T2≠T3) {CN CG CT:Addr} {tk1 tk2:Tok} (gN:PySem.W.nsIn K mainGlobals "NoTree" = some (some (.ref CN))) (gG:PySem.W.nsIn K mainGlobals "TooGreat" = some (some (.ref CG))) (qN:PySem.W.excIn K CN Wm "ValueError.__new__" = true) (qG:PySem.W.excIn K CG Wm "ValueError.__new__" = true) (v1:PySem.W.exmOne K (.ref CN) (.ref CN)=some true) (v2:PySem.W.exmOne K (.ref CG) (.ref CN)=some false) (v3:PySem.W.exmOne K (.ref CG) (.ref CG)=some true) (gT:PySem.W.nsIn K mainGlobals "TurnError" = some (some (.ref CT))) (i1:PySem.W.kitOne K (.ref CN) (.ref CT)=some true) (i2:PySem.W.kitOne K (.ref CN) (.type "ValueError")=some true) (i3:PySem.W.kitOne K (.ref CN) (.ref CG)=some false) (e1:PySem.W.findIn K (.ref CN) "__getattribute__" = some (some (.builtin "BaseException.__getattribute__"))) (e2:PySem.W.findIn K (.ref CN) "__getattr__" = some none) (e3:PySem.W.findIn K (.ref CN) "__class__" = some (some (.builtin "object.__class__"))) (e4:PySem.W.mroIn K CN (.type "BaseException")=some true) (e5:PySem.W.mroIn K CN (.type "object")=some true) (g4:PySem.W.nsIn K mainGlobals "MOST_NAMES" = some (some (.int 400 tk1))) (g6:PySem.W.nsIn K mainGlobals "MOST_LEVELS" = some (some (.int 60 tk2))) :
 ∃ fd:FuncData,(∀ (s:Shared) (v:Value),BindsTo s fd ⟨[v],[]⟩ [("_law_script", v)])∧∀ base:Heap,K.In base→base.Ns mainGlobals mg→U1 mg base→FnOk l.prog w K mg base CX0 60 fa fd ["_law_script"] (Vo K T1 T2 T3):=by
 have G:Gm mg:=⟨PySem.W.mg_none_of X N z1,PySem.W.mg_none_of X N z2,PySem.W.mg_none_of X N z3,PySem.W.mg_none_of X N z4,PySem.W.mg_none_of X N z5,PySem.W.mg_none_of X N z6,PySem.W.mg_none_of X N z7,PySem.W.mg_none_of X N z8,PySem.W.mg_none_of X N z9,PySem.W.mg_none_of X N z10,PySem.W.mg_none_of X N z11,PySem.W.mg_none_of X N z12,PySem.W.mg_none_of X N z13,PySem.W.mg_none_of X N z14,PySem.W.mg_none_of X N z15⟩
 obtain ⟨f,oc,od,kV,doc,pm,an,cdv,ct,osl,a,lk,c,kp⟩:=d45.ex
 have e:=hfa.symm.trans (PySem.W.mg_of X N a)
 cases e
 have F:=QJ (st:=Wt) lk c kp
 refine ⟨PySem.W.fnOf "law" "law" (defArgs Wt) (defBody Wt) (defScope Wt) .none kV doc pm an cdv ct,fun s v=>.of_eq rfl,fun base _ _ hB=>?_⟩
 have hve:mg "ValueError" = none:=PySem.W.mg_none_of X N y1
 have r1:Fn l.prog w K mg base 1 "is_call" ["term"] (UO K):=d1.fn X N (fun f fd F=>PN F) fun _ _ _ _ _ _ us hl=>by obtain ⟨a1,rfl⟩:=ln1 hl;rfl
 have r8:Fn l.prog w K mg base 1 "mark_put" ["term", "mark"] (NM K):=d3.fn X N (fun f fd F=>PY F) fun _ _ _ _ _ _ us hl=>by obtain ⟨a1,a2,rfl⟩:=ln2 hl;rfl
 have rPH:Fn l.prog w K mg base 2 "put_head" ["term", "mark"] (Pz K):=d4.fn X N (fun f fd F=>RJ F G r8) fun _ _ _ _ _ _ us hl=>by obtain ⟨a1,a2,rfl⟩:=ln2 hl;rfl
 have r9:Fn l.prog w K mg base 1 "has_number" ["branches", "number"] (Pg K):=d5.fn X N (fun f fd F=>R9 F G) fun _ _ _ _ _ _ us hl=>by obtain ⟨a1,a2,rfl⟩:=ln2 hl;rfl
 have r2:Fn l.prog w K mg base 1 "rows_of" ["wood", "kind"] (YJ K):=d6.fn X N (fun f fd F=>GL F G) fun _ _ _ _ _ _ us hl=>by obtain ⟨a1,a2,rfl⟩:=ln2 hl;rfl
 have r3:Fn l.prog w K mg base 2 "row_of" ["wood", "kind", "name"] (Ut K):=d7.fn X N (fun f fd F=>Ma F G r2) fun _ _ _ _ _ _ us hl=>by obtain ⟨a1,a2,a3,rfl⟩:=ln3 hl;rfl
 have r4:Fn l.prog w K mg base 42 "is_of" ["wood", "kind", "tree"] (Z6 K 40):=by
  obtain ⟨f,oc,od,kV,doc,pm,an,cdv,ct,osl,a,lk,c,kp⟩:=d8.ex
  have F:=QJ (st:=X4) lk c kp
  have hb:Binds K _ ["wood", "kind", "tree"] []:=F.binds fun _ _ _ _ _ _ us hl=>by obtain ⟨a1,a2,a3,rfl⟩:=ln3 hl;rfl
  exact ⟨f,_,Wk F G r3 hb (PySem.W.mg_of X N a) 40,hb,kp,PySem.W.mg_of X N a⟩
 have r5:Fn l.prog w K mg base 2 "rule_of" ["turning", "mode", "name"] (J0 K):=d11.fn X N (fun f fd F=>Op F G r2) fun _ _ _ _ _ _ us hl=>by obtain ⟨a1,a2,a3,rfl⟩:=ln3 hl;rfl
 have r6:Fn l.prog w K mg base 1 "_law_cell_at" ["_law_script", "_law_k"] (Xk K):=d28.fn X N (fun f fd F=>On F G) fun _ _ _ _ _ _ us hl=>by obtain ⟨a1,a2,rfl⟩:=ln2 hl;rfl
 have r12:Fn l.prog w K mg base 1 "above" ["tree"] (Uz K):=d13.fn X N (fun f fd F=>Lm F) fun _ _ _ _ _ _ us hl=>by obtain ⟨a1,rfl⟩:=ln1 hl;rfl
 have r13:Fn l.prog w K mg base 3 "first_put" ["turning", "term", "tree"] (J7 K):=d24.fn X N (fun f fd F=>La F r1 r5) fun _ _ _ _ _ _ us hl=>by obtain ⟨a1,a2,a3,rfl⟩:=ln3 hl;rfl
 have r14:Fn l.prog w K mg base 4 "seen_by" ["turning", "term", "tree", "place"] (YM K):=d23.fn X N (fun f fd F=>V7 F G r13 r12 r9 rPH) fun _ _ _ _ _ _ us hl=>by obtain ⟨a1,a2,a3,a4,rfl⟩:=ln4 hl;rfl
 have r17:Fn l.prog w K mg base 1 "_law_mixed" ["_law_cell", "_law_k"] Q8:=d29.fn X N (fun f fd F=>GZ F) fun _ _ _ _ _ _ us hl=>by obtain ⟨a1,a2,rfl⟩:=ln2 hl;rfl
 have r18:Fn l.prog w K mg base 1 "_law_great" ["_law_cell"] Yj:=d31.fn X N (fun f fd F=>Ln F) fun _ _ _ _ _ _ us hl=>by obtain ⟨a1,rfl⟩:=ln1 hl;rfl
 have r19:Fn l.prog w K mg base 2 "_law_mark" ["_law_cell", "_law_number"] Ve:=d36.fn X N (fun f fd F=>Nw F r18) fun _ _ _ _ _ _ us hl=>by obtain ⟨a1,a2,rfl⟩:=ln2 hl;rfl
 have r24:Fn l.prog w K mg base 2 "_law_names" ["_law_cell"] (XS K):=d30.fn X N (fun f fd F=>M6 F G r17) fun _ _ _ _ _ _ us hl=>by obtain ⟨a1,rfl⟩:=ln1 hl;rfl
 have r25:Fn l.prog w K mg base 1 "_law_calls" ["_law_branches", "_law_owners"] (Xn K):=d34.fn X N (fun f fd F=>MG F G) fun _ _ _ _ _ _ us hl=>by obtain ⟨a1,a2,rfl⟩:=ln2 hl;rfl
 have r26:Fn l.prog w K mg base 4 "_law_term" ["_law_cell", "_law_k", "_law_deep", "_law_calls_here", "_law_names_here", "_law_keep"] (Yy K 3):=by
  obtain ⟨f,oc,od,kV,doc,pm,an,cdv,ct,osl,a,lk,c,kp⟩:=d33.ex
  have F:=QJ (st:=JG) lk c kp
  have hb:Binds K _ ["_law_cell", "_law_k", "_law_deep", "_law_calls_here", "_law_names_here", "_law_keep"] []:=F.binds fun _ _ _ _ _ _ us hl=>by obtain ⟨a1,a2,a3,a4,a5,a6,rfl⟩:=ln6 hl;rfl
  exact ⟨f,_,Wn F G r17 r18 hb (PySem.W.mg_of X N a) 3,hb,kp,PySem.W.mg_of X N a⟩
 have r27:Fn l.prog w K mg base 2 "_law_wood" ["_law_cell", "_law_names_here"] (W2 K):=d32.fn X N (fun f fd F=>Ol F G r17) fun _ _ _ _ _ _ us hl=>by obtain ⟨a1,a2,rfl⟩:=ln2 hl;rfl
 have r28:Fn l.prog w K mg base 5 "_law_turning" ["_law_script", "_law_wood_here", "_law_names_here"] (Y0 K):=d35.fn X N (fun f fd F=>Vf F G r6 r17 r25 r26) fun _ _ _ _ _ _ us hl=>by obtain ⟨a1,a2,a3,rfl⟩:=ln3 hl;rfl
 have r29:Fn l.prog w K mg base 3 "_law_grown" ["_law_wood_here", "_law_cells", "_law_top"] (Xu K):=d37.fn X N (fun f fd F=>L6 F G r17 r19) fun _ _ _ _ _ _ us hl=>by obtain ⟨a1,a2,a3,rfl⟩:=ln3 hl;rfl
 have r30:Fn l.prog w K mg base 2 "_law_built" ["_law_wood_here", "_law_nodes"] (UA K):=d38.fn X N (fun f fd F=>Mk F G r17) fun _ _ _ _ _ _ us hl=>by obtain ⟨a1,a2,rfl⟩:=ln2 hl;rfl
 have r31:Fn l.prog w K mg base 1 "_law_copy" ["_law_turning_here"] (WP K):=d39.fn X N (fun f fd F=>Na F G) fun _ _ _ _ _ _ us hl=>by obtain ⟨a1,rfl⟩:=ln1 hl;rfl
 have c1:Fn l.prog w K mg base 9 "calls_of" ["term"] (W8 K 8):=by
  obtain ⟨f,oc,od,kV,doc,pm,an,cdv,ct,osl,a,lk,c,kp⟩:=d2.ex
  have F:=QJ (st:=sCO) lk c kp
  have hb:Binds K _ ["term"] []:=F.binds fun _ _ _ _ _ _ us hl=>by obtain ⟨a1,rfl⟩:=ln1 hl;rfl
  exact ⟨f,_,M0 F G r1 hb (PySem.W.mg_of X N a) 8,hb,kp,PySem.W.mg_of X N a⟩
 have c2:Fn l.prog w K mg base 10 "called_below" ["turning", "rules", "tree"] (Om K):=d15.fn X N (fun f fd F=>R0 F G c1 r5) fun _ _ _ _ _ _ us hl=>by obtain ⟨a1,a2,a3,rfl⟩:=ln3 hl;rfl
 have fM:Fn l.prog w K mg base 11 "filled" ["term", "mark", "below", "make"] (Zj K eM RN opM 8):=by
  obtain ⟨f,oc,od,kV,doc,pm,an,cdv,ct,osl,a,lk,c,kp⟩:=d16.ex
  have F:=QJ (st:=Jo) lk c kp
  have hb:Binds K _ ["term", "mark", "below", "make"] []:=F.binds fun _ _ _ _ _ _ us hl=>by obtain ⟨a1,a2,a3,a4,rfl⟩:=ln4 hl;rfl
  exact ⟨f,_,YR VQ F G r1 (MT G) hb (PySem.W.mg_of X N a) 8,hb,kp,PySem.W.mg_of X N a⟩
 have kM:Fn l.prog w K mg base 53 "reckoned" ["turning", "rules", "tree", "make"] (ZZ K eM RN opM 0 41):=by
  obtain ⟨f,oc,od,kV,doc,pm,an,cdv,ct,osl,a,lk,c,kp⟩:=d14.ex
  have F:=QJ (st:=UY) lk c kp
  have hb:Binds K _ ["turning", "rules", "tree", "make"] []:=F.binds fun _ _ _ _ _ _ us hl=>by obtain ⟨a1,a2,a3,a4,rfl⟩:=ln4 hl;rfl
  exact ⟨f,_,YH VQ F G c2 fM hb (PySem.W.mg_of X N a) 41,hb,kp,PySem.W.mg_of X N a⟩
 have oM:Fn l.prog w K mg base 54 "outcome" ["turning", "term", "tree", "make"] (U8 K eM RN opM 0):=d12.fn X N (fun f fd F=>W7 F r12 kM) fun _ _ _ _ _ _ us hl=>by obtain ⟨a1,a2,a3,a4,rfl⟩:=ln4 hl;rfl
 have fT:Fn l.prog w K mg base 11 "filled" ["term", "mark", "below", "make"] (Zj K eT RN opT 8):=by
  obtain ⟨f,oc,od,kV,doc,pm,an,cdv,ct,osl,a,lk,c,kp⟩:=d16.ex
  have F:=QJ (st:=Jo) lk c kp
  have hb:Binds K _ ["term", "mark", "below", "make"] []:=F.binds fun _ _ _ _ _ _ us hl=>by obtain ⟨a1,a2,a3,a4,rfl⟩:=ln4 hl;rfl
  exact ⟨f,_,YR VQ F G r1 (G6 G) hb (PySem.W.mg_of X N a) 8,hb,kp,PySem.W.mg_of X N a⟩
 have kT:Fn l.prog w K mg base 53 "reckoned" ["turning", "rules", "tree", "make"] (ZZ K eT RN opT 0 41):=by
  obtain ⟨f,oc,od,kV,doc,pm,an,cdv,ct,osl,a,lk,c,kp⟩:=d14.ex
  have F:=QJ (st:=UY) lk c kp
  have hb:Binds K _ ["turning", "rules", "tree", "make"] []:=F.binds fun _ _ _ _ _ _ us hl=>by obtain ⟨a1,a2,a3,a4,rfl⟩:=ln4 hl;rfl
  exact ⟨f,_,YH VQ F G c2 fT hb (PySem.W.mg_of X N a) 41,hb,kp,PySem.W.mg_of X N a⟩
 have oT:Fn l.prog w K mg base 54 "outcome" ["turning", "term", "tree", "make"] (U8 K eT RN opT 0):=d12.fn X N (fun f fd F=>W7 F r12 kT) fun _ _ _ _ _ _ us hl=>by obtain ⟨a1,a2,a3,a4,rfl⟩:=ln4 hl;rfl
 have fR:Fn l.prog w K mg base 11 "filled" ["term", "mark", "below", "make"] (Zj K eR (RT K) opR 8):=by
  obtain ⟨f,oc,od,kV,doc,pm,an,cdv,ct,osl,a,lk,c,kp⟩:=d16.ex
  have F:=QJ (st:=Jo) lk c kp
  have hb:Binds K _ ["term", "mark", "below", "make"] []:=F.binds fun _ _ _ _ _ _ us hl=>by obtain ⟨a1,a2,a3,a4,rfl⟩:=ln4 hl;rfl
  exact ⟨f,_,YR Ow F G r1 (Lq G r8) hb (PySem.W.mg_of X N a) 8,hb,kp,PySem.W.mg_of X N a⟩
 have kR:Fn l.prog w K mg base 53 "reckoned" ["turning", "rules", "tree", "make"] (ZZ K eR (RT K) opR (.node (S []) 0 []) 41):=by
  obtain ⟨f,oc,od,kV,doc,pm,an,cdv,ct,osl,a,lk,c,kp⟩:=d14.ex
  have F:=QJ (st:=UY) lk c kp
  have hb:Binds K _ ["turning", "rules", "tree", "make"] []:=F.binds fun _ _ _ _ _ _ us hl=>by obtain ⟨a1,a2,a3,a4,rfl⟩:=ln4 hl;rfl
  exact ⟨f,_,YH Ow F G c2 fR hb (PySem.W.mg_of X N a) 41,hb,kp,PySem.W.mg_of X N a⟩
 have oR:Fn l.prog w K mg base 54 "outcome" ["turning", "term", "tree", "make"] (U8 K eR (RT K) opR (.node (S []) 0 [])):=d12.fn X N (fun f fd F=>W7 F r12 kR) fun _ _ _ _ _ _ us hl=>by obtain ⟨a1,a2,a3,a4,rfl⟩:=ln4 hl;rfl
 have bM:Fn l.prog w K mg base 55 "many_by" ["turning", "term", "tree"] (Ws K T1 eM qM opM):=by
  obtain ⟨f,oc,od,kV,doc,pm,an,cdv,ct,osl,a,lk,c,kp⟩:=d19.ex
  have F:=QJ (st:=Ym) lk c kp
  have hb:Binds K _ ["turning", "term", "tree"] []:=F.binds fun _ _ _ _ _ _ us hl=>by obtain ⟨a1,a2,a3,rfl⟩:=ln3 hl;rfl
  exact ⟨f,_,GP F a ht1 hh1 hB oM,hb,kp,PySem.W.mg_of X N a⟩
 have bT:Fn l.prog w K mg base 55 "tall_by" ["turning", "term", "tree"] (Ws K T2 eT qT opT):=by
  obtain ⟨f,oc,od,kV,doc,pm,an,cdv,ct,osl,a,lk,c,kp⟩:=d20.ex
  have F:=QJ (st:=Yn) lk c kp
  have hb:Binds K _ ["turning", "term", "tree"] []:=F.binds fun _ _ _ _ _ _ us hl=>by obtain ⟨a1,a2,a3,rfl⟩:=ln3 hl;rfl
  exact ⟨f,_,GD F a ht2 hh2 hB oT,hb,kp,PySem.W.mg_of X N a⟩
 have x1:FnX l.prog w K mg base 43 "need_of" ["wood", "kind", "tree"] (WA K CN):=by
  obtain ⟨f,oc,od,kV,doc,pm,an,cdv,ct,osl,a,lk,c,kp⟩:=d9.ex
  have F:=QJ (st:=Ur) lk c kp
  have hb:Binds K _ ["wood", "kind", "tree"] []:=F.binds fun _ _ _ _ _ _ us hl=>by obtain ⟨a1,a2,a3,rfl⟩:=ln3 hl;rfl
  exact ⟨⟨f,_,Pt F (PySem.W.mg_of X N gN) qN PySem.F.excBase_ValueError (27:) r4,hb,kp,PySem.W.mg_of X N a⟩⟩
 have x2:FnX l.prog w K mg base 44 "need_in" ["wood", "tree"] (JI K CN):=by
  obtain ⟨f,oc,od,kV,doc,pm,an,cdv,ct,osl,a,lk,c,kp⟩:=d10.ex
  have F:=QJ (st:=UE) lk c kp
  have hb:Binds K _ ["wood", "tree"] []:=F.binds fun _ _ _ _ _ _ us hl=>by obtain ⟨a1,a2,rfl⟩:=ln2 hl;rfl
  exact ⟨⟨f,_,OM F x1,hb,kp,PySem.W.mg_of X N a⟩⟩
 have x3:FnX l.prog w K mg base 56 "turned_by" ["turning", "term", "tree"] (Vh K CG T1 T2 T3):=by
  obtain ⟨f,oc,od,kV,doc,pm,an,cdv,ct,osl,a,lk,c,kp⟩:=d27.ex
  have F:=QJ (st:=Zm) lk c kp
  have hb:Binds K _ ["turning", "term", "tree"] []:=F.binds fun _ _ _ _ _ _ us hl=>by obtain ⟨a1,a2,a3,rfl⟩:=ln3 hl;rfl
  exact ⟨⟨f,_,OL F a ht3 hh3 hB (PySem.W.mg_of X N g4) (PySem.W.mg_of X N g6) (PySem.W.mg_of X N gG) qG PySem.F.excBase_ValueError (27:) ⟨ne12,ne13,ne23⟩ bM bT oR,hb,kp,PySem.W.mg_of X N a⟩⟩
 have x4:FnX l.prog w K mg base 57 "turned" ["turning", "tree"] (Pj K CN CG T1 T2 T3):=by
  obtain ⟨f,oc,od,kV,doc,pm,an,cdv,ct,osl,a,lk,c,kp⟩:=d25.ex
  have F:=QJ (st:=Us) lk c kp
  have hb:Binds K _ ["turning", "tree"] []:=F.binds fun _ _ _ _ _ _ us hl=>by obtain ⟨a1,a2,rfl⟩:=ln2 hl;rfl
  exact ⟨⟨f,_,P7 F x2 x3,hb,kp,PySem.W.mg_of X N a⟩⟩
 have x5:FnX l.prog w K mg base 57 "turned_in" ["turning", "mode", "tree"] (WO K CN CG T1 T2 T3):=by
  obtain ⟨f,oc,od,kV,doc,pm,an,cdv,ct,osl,a,lk,c,kp⟩:=d26.ex
  have F:=QJ (st:=Yg) lk c kp
  have hb:Binds K _ ["turning", "mode", "tree"] []:=F.binds fun _ _ _ _ _ _ us hl=>by obtain ⟨a1,a2,a3,rfl⟩:=ln3 hl;rfl
  exact ⟨⟨f,_,NY F x1 x3,hb,kp,PySem.W.mg_of X N a⟩⟩
 have x6:FnX l.prog w K mg base 56 "many" ["turning", "tree"] (Gp K CN CG T1 T2 T3):=by
  obtain ⟨f,oc,od,kV,doc,pm,an,cdv,ct,osl,a,lk,c,kp⟩:=d17.ex
  have F:=QJ (st:=Vw) lk c kp
  have hb:Binds K _ ["turning", "tree"] []:=F.binds fun _ _ _ _ _ _ us hl=>by obtain ⟨a1,a2,rfl⟩:=ln2 hl;rfl
  exact ⟨⟨f,_,Mu F ⟨ne12,ne13,ne23⟩ x2 bM,hb,kp,PySem.W.mg_of X N a⟩⟩
 have x7:FnX l.prog w K mg base 56 "tall" ["turning", "tree"] (Gp K CN CG T1 T2 T3):=by
  obtain ⟨f,oc,od,kV,doc,pm,an,cdv,ct,osl,a,lk,c,kp⟩:=d18.ex
  have F:=QJ (st:=Vx) lk c kp
  have hb:Binds K _ ["turning", "tree"] []:=F.binds fun _ _ _ _ _ _ us hl=>by obtain ⟨a1,a2,rfl⟩:=ln2 hl;rfl
  exact ⟨⟨f,_,Mw F ⟨ne12,ne13,ne23⟩ x2 bT,hb,kp,PySem.W.mg_of X N a⟩⟩
 have x8:FnX l.prog w K mg base 56 "seen" ["turning", "tree", "place"] (PU K CN CG T1 T2 T3):=by
  obtain ⟨f,oc,od,kV,doc,pm,an,cdv,ct,osl,a,lk,c,kp⟩:=d21.ex
  have F:=QJ (st:=VI) lk c kp
  have hb:Binds K _ ["turning", "tree", "place"] []:=F.binds fun _ _ _ _ _ _ us hl=>by obtain ⟨a1,a2,a3,rfl⟩:=ln3 hl;rfl
  exact ⟨⟨f,_,GU F x2 r14,hb,kp,PySem.W.mg_of X N a⟩⟩
 have x9:FnX l.prog w K mg base 56 "seen_in" ["turning", "mode", "tree", "place"] (Lj K CN CG T1 T2 T3):=by
  obtain ⟨f,oc,od,kV,doc,pm,an,cdv,ct,osl,a,lk,c,kp⟩:=d22.ex
  have F:=QJ (st:=Uv) lk c kp
  have hb:Binds K _ ["turning", "mode", "tree", "place"] []:=F.binds fun _ _ _ _ _ _ us hl=>by obtain ⟨a1,a2,a3,a4,rfl⟩:=ln4 hl;rfl
  exact ⟨⟨f,_,WY F x1 r14,hb,kp,PySem.W.mg_of X N a⟩⟩
 have xA:FnX l.prog w K mg base 58 "_law_asked" ["_law_turning_here", "_law_mode", "_law_tree", "_law_ask"] (Xl K CN CG T1 T2 T3):=by
  obtain ⟨f,oc,od,kV,doc,pm,an,cdv,ct,osl,a,lk,c,kp⟩:=d43.ex
  have F:=QJ (st:=J9) lk c kp
  have hb:Binds K _ ["_law_turning_here", "_law_mode", "_law_tree", "_law_ask"] []:=F.binds fun _ _ _ _ _ _ us hl=>by obtain ⟨a1,a2,a3,a4,rfl⟩:=ln4 hl;rfl
  exact ⟨⟨f,_,G1 F x6 x7 x8 x4 x5 x9,hb,kp,PySem.W.mg_of X N a⟩⟩
 have dR:Fn l.prog w K mg base 59 "_law_right" ["_law_turning_here", "_law_mode", "_law_tree", "_law_ask", "_law_due"] (Xq K T1 T2 T3):=d44.fn X N (fun f fd F=>Le F G hve (PySem.W.mg_of X N gN) (PySem.W.mg_of X N gG) (PySem.W.mg_of X N gT) v1 v2 v3 ⟨e1,e2,e3,e4,e5⟩ i1 i2 i3 xA) fun _ _ _ _ _ _ us hl=>by obtain ⟨a1,a2,a3,a4,a5,rfl⟩:=ln5 hl;rfl
 have dO:Fn l.prog w K mg base 13 "_law_of_kind" ["_law_wood_here", "_law_kind", "_law_tree"] (WE K 12):=by
  obtain ⟨f,oc,od,kV,doc,pm,an,cdv,ct,osl,a,lk,c,kp⟩:=d40.ex
  have F:=QJ (st:=Me) lk c kp
  have hb:Binds K _ ["_law_wood_here", "_law_kind", "_law_tree"] []:=F.binds fun _ _ _ _ _ _ us hl=>by obtain ⟨a1,a2,a3,rfl⟩:=ln3 hl;rfl
  exact ⟨f,_,VT F G hb (PySem.W.mg_of X N a) 12,hb,kp,PySem.W.mg_of X N a⟩
 have dS:Fn l.prog w K mg base 1 "_law_spoiled" ["_law_names_here", "_law_tree", "_law_number", "_law_mark_here"] (Xj K):=d41.fn X N (fun f fd F=>LP F G) fun _ _ _ _ _ _ us hl=>by obtain ⟨a1,a2,a3,a4,rfl⟩:=ln4 hl;rfl
 have dP:Fn l.prog w K mg base 3 "_law_respelled" ["_law_wood_here", "_law_nodes", "_law_names_here", "_law_cell"] (Vc K):=d42.fn X N (fun f fd F=>Oe F G r17 r18 r30 dS) fun _ _ _ _ _ _ us hl=>by obtain ⟨a1,a2,a3,a4,rfl⟩:=ln4 hl;rfl
 exact Pc F G r6 r24 r27 r28 r29 r30 dP r31 r17 dO dR
theorem walk {c1 T1:Addr} {c2 T2:Addr} {c3 T3:Addr} {l:PySem.W.OpenLaw} {q:Program} {loose:List Str} {XP:(Str→Option Value)→Heap→Prop} {YP:World→Heap→Prop} {d:DefRec} {K:Params→PySem.W.Frag} (hn:l.most=some 63) (hdf:d.params.defaults=[])
 (hY:∀ (w:World) (h:Heap),YP w h→(K w.params).In h) (tb1:∀ w:World,TabAt q (K w.params) "many_by" c1 T1) (tb2:∀ w:World,TabAt q (K w.params) "tall_by" c2 T2) (tb3:∀ w:World,TabAt q (K w.params) "turned_by" c3 T3) (ne12:T1≠T2) (ne13:T1≠T3) (ne23:T2≠T3)
 (F:∀ (w:World) (mg:Str→Option Value) (fa:Addr) (h:Heap),(K w.params).In h→h.Ns mainGlobals mg→mg d.name=some (.ref fa) →
  ∃ fd:FuncData,(∀ (s:Shared) (u:Value),BindsTo s fd ⟨[u],[]⟩ [("_law_script", u)])∧∀ base:Heap,(K w.params).In base→base.Ns mainGlobals mg→U1 mg base→FnOk l.prog w (K w.params) mg base CX0 60 fa fd ["_law_script"] (Vo (K w.params) T1 T2 T3)) :
 PySem.W.WalkO q loose XP YP l.row.toRowW d [] (fun f vs=>PySem.call f vs) :=
 L2.walk_ofT (n:=63) (k:=60) (x:="_law_script") (tabs:=[("many_by", c1,T1),("tall_by", c2,T2),("turned_by", c3,T3)]) (sp:=fun w=>Vo (K w.params) T1 T2 T3) hn (27:) hdf ⟨rfl,by decide,by decide⟩ hY (fun w p hp=>by
  simp only [List.mem_cons,List.not_mem_nil,or_false] at hp
  rcases hp with rfl | rfl | rfl
  ·exact tb1 w
  ·exact tb2 w
  ·exact tb3 w) F (fun _ _ a ns hl hS hT=>⟨a,ns,rfl,hS,hl,ne12,ne13,ne23,hT ("many_by", c1,T1) (24:),hT ("tall_by", c2,T2) (24:),hT ("turned_by", c3,T3) (24:),fun _=>rfl⟩)
end K25
section
open PySem
noncomputable def K25.vS (x:String) (n:Nat):Value:=.str (Str.ofString x) n
noncomputable def K25.vR (a:Nat):Value:=.ref a
noncomputable def K25.vI (i:Int) (n:Nat):Value:=.int i n
noncomputable def K25.hE (P:Params) (x:String) (n:Nat) (v:Value):DictEntry:=⟨PyData.keyHash P (Str.ofString x),.str (Str.ofString x) n,v⟩
noncomputable def K25.vN:Value:=.none
noncomputable def K25.vF:Value:=.type "function"
noncomputable def K25.vT:Value:=.bool true
noncomputable def K25.i0:Value:=.int 0 0
noncomputable def K25.i3:Value:=.int 3 0
noncomputable def K25.i1:Value:=.int 181 0
noncomputable def K25.cP (k:Nat):Value:=.str (Str.ofString "/claim/cut.py") k
noncomputable def K25.oT (x:Array Value):Obj:=Obj.mk (Value.type "tuple") none (Data.seq x) #[]
noncomputable def K25.oC (x:Array Value):Obj:=Obj.mk (Value.type "code") none (Data.fields x) #[]
noncomputable def K25.oF (c:Value) (x y:String) (s:Stmt) (k:Nat) (pm cd:Value):Obj:=Obj.mk c none (Data.func (FuncData.mk (Str.ofString x) (Str.ofString y) (L2.defArgs s) (.stmts (L2.defBody s)) (L2.defScope s) k [] Value.none Value.none Value.none pm none cd Value.none 0)) #[]
open K25
noncomputable def K25.oE:Obj:={ cls:=vN,data:=Data.fields #[] }
noncomputable def K25.x3 (P:Params):Obj:=Obj.mk (Value.type "dict") none (Data.dict #[hE P "__name__" 165 (3:),hE P "__doc__" 166 vN,hE P "__package__" 167 vN,hE P "__loader__" 168 (Value.builtin "__main__.__loader__#opaque"),hE P "__spec__" 169 vN,hE P "__annotations__" 170 (vR 6),hE P "__builtins__" 171 (vR 4),hE P "__file__" 173 (cP 172),hE P "__cached__" 174 vN,hE P "is_call" 195 (vR 21),hE P "calls_of" 204 (vR 28),hE P "mark_put" 212 (vR 35),hE P "put_head" 220 (vR 42),hE P "TurnError" 240 (vR 52),hE P "NoTree" 256 (vR 65),hE P "TooGreat" 272 (vR 77),hE P "has_number" 282 (vR 86),hE P "rows_of" 292 (vR 93),hE P "row_of" 301 (vR 100),hE P "is_of" 307 (vR 105),hE P "need_of" 316 (vR 112),hE P "need_in" 324 (vR 119),hE P "rule_of" 339 (vR 126),hE P "outcome" 351 (vR 133),hE P "above" 358 (vR 140),hE P "reckoned" 364 (vR 145),hE P "called_below" 370 (vR 150),hE P "filled" 376 (vR 155),hE P "many" 386 (vR 162),hE P "tall" 394 (vR 169),hE P "many_by" 403 (vR 176),hE P "tall_by" 412 (vR 183),hE P "seen" 421 (vR 190),hE P "seen_in" 431 (vR 197),hE P "seen_by" 444 (vR 204),hE P "first_put" 456 (vR 211),hE P "MOST_NAMES" 460 (vI 400 459),hE P "MOST_LEVELS" 462 (vI 60 461),hE P "turned" 470 (vR 218),hE P "turned_in" 479 (vR 225),hE P "turned_by" 488 (vR 232),hE P "_law_cell_at" 498 (vR 239),hE P "_law_mixed" 507 (vR 246),hE P "_law_names" 513 (vR 251),hE P "_law_great" 520 (vR 258),hE P "_law_wood" 526 (vR 263),hE P "_law_term" 532 (vR 268),hE P "_law_calls" 538 (vR 273),hE P "_law_turning" 544 (vR 278),hE P "_law_mark" 552 (vR 285),hE P "_law_grown" 558 (vR 290),hE P "_law_built" 564 (vR 295),hE P "_law_copy" 570 (vR 300),hE P "_law_of_kind" 582 (vR 307),hE P "_law_spoiled" 593 (vR 314),hE P "_law_respelled" 599 (vR 319),hE P "_law_asked" 609 (vR 326),hE P "_law_right" 623 (vR 333),hE P "law" 642 (vR 340)] 59) #[]
noncomputable def K25.x20 (P:Params):Obj:=oC #[vS "is_call" 189,vS "is_call" 190,cP 191,vI 2 0,vI 1 0,i0,i0,i3,vR 15,vT,i1,vR 16,vN,vR 17,vR 18,vR 19,vI 193 0,vI 2 0,cP 194]
noncomputable def K25.x21 (P:Params):Obj:=oF vF "is_call" "is_call" (top 1) 3 (vS "turnery.terms" 187) (vR 20)
noncomputable def K25.x24 (P:Params):Obj:=oT #[vS "term" 199,vS "told" 200,vS "part" 201]
noncomputable def K25.x27 (P:Params):Obj:=oC #[vS "calls_of" 196,vS "calls_of" 197,cP 198,vI 4 0,vI 1 0,i0,i0,i3,vR 22,vT,i1,vR 23,vN,vR 24,vR 25,vR 26,vI 202 0,vI 4 0,cP 203]
noncomputable def K25.x28 (P:Params):Obj:=oF vF "calls_of" "calls_of" (top 2) 3 (vS "turnery.terms" 187) (vR 27)
noncomputable def K25.x34 (P:Params):Obj:=oC #[vS "mark_put" 205,vS "mark_put" 206,cP 207,vI 11 0,vI 2 0,i0,i0,i3,vR 29,vT,i1,vR 30,vN,vR 31,vR 32,vR 33,vI 210 0,vI 11 0,cP 211]
noncomputable def K25.x35 (P:Params):Obj:=oF vF "mark_put" "mark_put" (top 3) 3 (vS "turnery.terms" 187) (vR 34)
noncomputable def K25.x41 (P:Params):Obj:=oC #[vS "put_head" 213,vS "put_head" 214,cP 215,vI 13 0,vI 2 0,i0,i0,i3,vR 36,vT,i1,vR 37,vN,vR 38,vR 39,vR 40,vI 218 0,vI 13 0,cP 219]
noncomputable def K25.x42 (P:Params):Obj:=oF vF "put_head" "put_head" (top 4) 3 (vS "turnery.terms" 187) (vR 41)
noncomputable def K25.x51 (P:Params):Obj:=Obj.mk (Value.type "dict") none (Data.dict #[hE P "__module__" 230 (vS "turnery.errors" 221),hE P "__firstlineno__" 234 (vI 16 233),hE P "__static_attributes__" 235 (vR 50),hE P "__weakref__" 237 (vR 53),hE P "__doc__" 238 vN] 3) #[]
noncomputable def K25.x52 (P:Params):Obj:=Obj.mk (Value.type "type") none (Data.cls (ClassData.mk (Str.ofString "TurnError") [Value.type "ValueError"] [vR 52,Value.type "ValueError", Value.type "Exception", Value.type "BaseException", Value.type "object"] 51 (Str.ofString "TurnError") true [] [vR 65,vR 77] false none false)) #[some (vR 43),none,some (vS "TurnError" 223),some (vS "TurnError" 231),some (Value.builtin "ValueError.__new__"),some (Value.bool true)]
noncomputable def K25.x53 (P:Params):Obj:=Obj.mk (Value.type "getset_descriptor") none (Data.fields #[vS "__weakref__" 236,vR 52,Value.builtin "ExceptionGroup.__weakref__", vN]) #[]
noncomputable def K25.x64 (P:Params):Obj:=Obj.mk (Value.type "dict") none (Data.dict #[hE P "__module__" 248 (vS "turnery.errors" 221),hE P "__firstlineno__" 252 (vI 18 251),hE P "__static_attributes__" 253 (vR 63),hE P "__doc__" 254 vN] 2) #[]
noncomputable def K25.x65 (P:Params):Obj:=Obj.mk (Value.type "type") none (Data.cls (ClassData.mk (Str.ofString "NoTree") [vR 52] [vR 65,vR 52,Value.type "ValueError", Value.type "Exception", Value.type "BaseException", Value.type "object"] 64 (Str.ofString "NoTree") true [] [] false none false)) #[some (vR 56),none,some (vS "NoTree" 241),some (vS "NoTree" 249),some (Value.builtin "ValueError.__new__"),some (Value.bool true)]
noncomputable def K25.x76 (P:Params):Obj:=Obj.mk (Value.type "dict") none (Data.dict #[hE P "__module__" 264 (vS "turnery.errors" 221),hE P "__firstlineno__" 268 (vI 20 267),hE P "__static_attributes__" 269 (vR 75),hE P "__doc__" 270 vN] 2) #[]
noncomputable def K25.x77 (P:Params):Obj:=Obj.mk (Value.type "type") none (Data.cls (ClassData.mk (Str.ofString "TooGreat") [vR 52] [vR 77,vR 52,Value.type "ValueError", Value.type "Exception", Value.type "BaseException", Value.type "object"] 76 (Str.ofString "TooGreat") true [] [] false none false)) #[some (vR 68),none,some (vS "TooGreat" 257),some (vS "TooGreat" 265),some (Value.builtin "ValueError.__new__"),some (Value.bool true)]
noncomputable def K25.x85 (P:Params):Obj:=oC #[vS "has_number" 275,vS "has_number" 276,cP 277,vI 23 0,vI 2 0,i0,i0,i3,vR 80,vT,i1,vR 81,vN,vR 82,vR 83,vR 84,vI 280 0,vI 23 0,cP 281]
noncomputable def K25.x86 (P:Params):Obj:=oF vF "has_number" "has_number" (top 10) 3 (vS "turnery.trees" 273) (vR 85)
noncomputable def K25.x92 (P:Params):Obj:=oC #[vS "rows_of" 285,vS "rows_of" 286,cP 287,vI 28 0,vI 2 0,i0,i0,i3,vR 87,vT,i1,vR 88,vN,vR 89,vR 90,vR 91,vI 290 0,vI 28 0,cP 291]
noncomputable def K25.x93 (P:Params):Obj:=oF vF "rows_of" "rows_of" (top 12) 3 (vS "turnery.woods" 283) (vR 92)
noncomputable def K25.x96 (P:Params):Obj:=oT #[vS "wood" 296,vS "kind" 297,vS "name" 298]
noncomputable def K25.x99 (P:Params):Obj:=oC #[vS "row_of" 293,vS "row_of" 294,cP 295,vI 30 0,vI 3 0,i0,i0,i3,vR 94,vT,i1,vR 95,vN,vR 96,vR 97,vR 98,vI 299 0,vI 30 0,cP 300]
noncomputable def K25.x100 (P:Params):Obj:=oF vF "row_of" "row_of" (top 13) 3 (vS "turnery.woods" 283) (vR 99)
noncomputable def K25.x104 (P:Params):Obj:=oC #[vS "is_of" 302,vS "is_of" 303,cP 304,vI 32 0,vI 3 0,i0,i0,i3,vR 101,vT,i1,vR 102,vN,vN,vN,vR 103,vI 305 0,vI 32 0,cP 306]
noncomputable def K25.x105 (P:Params):Obj:=oF vF "is_of" "is_of" (top 14) 3 (vS "turnery.woods" 283) (vR 104)
noncomputable def K25.x108 (P:Params):Obj:=oT #[vS "wood" 311,vS "kind" 312,vS "tree" 313]
noncomputable def K25.x111 (P:Params):Obj:=oC #[vS "need_of" 308,vS "need_of" 309,cP 310,vI 38 0,vI 3 0,i0,i0,i3,vR 106,vT,i1,vR 107,vN,vR 108,vR 109,vR 110,vI 314 0,vI 38 0,cP 315]
noncomputable def K25.x112 (P:Params):Obj:=oF vF "need_of" "need_of" (top 15) 3 (vS "turnery.woods" 283) (vR 111)
noncomputable def K25.x118 (P:Params):Obj:=oC #[vS "need_in" 317,vS "need_in" 318,cP 319,vI 41 0,vI 2 0,i0,i0,i3,vR 113,vT,i1,vR 114,vN,vR 115,vR 116,vR 117,vI 322 0,vI 41 0,cP 323]
noncomputable def K25.x119 (P:Params):Obj:=oF vF "need_in" "need_in" (top 16) 3 (vS "turnery.woods" 283) (vR 118)
noncomputable def K25.x122 (P:Params):Obj:=oT #[vS "turning" 330,vS "mode" 331,vS "name" 332,vS "kind" 333,vS "rules" 334,vS "row" 335,vS "rule" 336]
noncomputable def K25.x125 (P:Params):Obj:=oC #[vS "rule_of" 327,vS "rule_of" 328,cP 329,vI 44 0,vI 3 0,i0,i0,i3,vR 120,vT,i1,vR 121,vN,vR 122,vR 123,vR 124,vI 337 0,vI 44 0,cP 338]
noncomputable def K25.x126 (P:Params):Obj:=oF vF "rule_of" "rule_of" (top 18) 3 (vS "turnery.turnings" 325) (vR 125)
noncomputable def K25.x129 (P:Params):Obj:=oT #[vS "turning" 345,vS "term" 346,vS "tree" 347,vS "make" 348]
noncomputable def K25.x132 (P:Params):Obj:=oC #[vS "outcome" 342,vS "outcome" 343,cP 344,vI 52 0,vI 4 0,i0,i0,i3,vR 127,vT,i1,vR 128,vN,vR 129,vR 130,vR 131,vI 349 0,vI 52 0,cP 350]
noncomputable def K25.x133 (P:Params):Obj:=oF vF "outcome" "outcome" (top 20) 3 (vS "turnery.outcomes" 340) (vR 132)
noncomputable def K25.x139 (P:Params):Obj:=oC #[vS "above" 352,vS "above" 353,cP 354,vI 54 0,vI 1 0,i0,i0,i3,vR 134,vT,i1,vR 135,vN,vR 136,vR 137,vR 138,vI 356 0,vI 54 0,cP 357]
noncomputable def K25.x140 (P:Params):Obj:=oF vF "above" "above" (top 21) 3 (vS "turnery.outcomes" 340) (vR 139)
noncomputable def K25.x144 (P:Params):Obj:=oC #[vS "reckoned" 359,vS "reckoned" 360,cP 361,vI 56 0,vI 4 0,i0,i0,i3,vR 141,vT,i1,vR 142,vN,vN,vN,vR 143,vI 362 0,vI 56 0,cP 363]
noncomputable def K25.x145 (P:Params):Obj:=oF vF "reckoned" "reckoned" (top 22) 3 (vS "turnery.outcomes" 340) (vR 144)
noncomputable def K25.x149 (P:Params):Obj:=oC #[vS "called_below" 365,vS "called_below" 366,cP 367,vI 61 0,vI 3 0,i0,i0,i3,vR 146,vT,i1,vR 147,vN,vN,vN,vR 148,vI 368 0,vI 61 0,cP 369]
noncomputable def K25.x150 (P:Params):Obj:=oF vF "called_below" "called_below" (top 23) 3 (vS "turnery.outcomes" 340) (vR 149)
noncomputable def K25.x154 (P:Params):Obj:=oC #[vS "filled" 371,vS "filled" 372,cP 373,vI 68 0,vI 4 0,i0,i0,i3,vR 151,vT,i1,vR 152,vN,vN,vN,vR 153,vI 374 0,vI 68 0,cP 375]
noncomputable def K25.x155 (P:Params):Obj:=oF vF "filled" "filled" (top 24) 3 (vS "turnery.outcomes" 340) (vR 154)
noncomputable def K25.x161 (P:Params):Obj:=oC #[vS "many" 379,vS "many" 380,cP 381,vI 73 0,vI 2 0,i0,i0,i3,vR 156,vT,i1,vR 157,vN,vR 158,vR 159,vR 160,vI 384 0,vI 73 0,cP 385]
noncomputable def K25.x162 (P:Params):Obj:=oF vF "many" "many" (top 26) 3 (34:) (vR 161)
noncomputable def K25.x168 (P:Params):Obj:=oC #[vS "tall" 387,vS "tall" 388,cP 389,vI 76 0,vI 2 0,i0,i0,i3,vR 163,vT,i1,vR 164,vN,vR 165,vR 166,vR 167,vI 392 0,vI 76 0,cP 393]
noncomputable def K25.x169 (P:Params):Obj:=oF vF "tall" "tall" (top 27) 3 (34:) (vR 168)
noncomputable def K25.x172 (P:Params):Obj:=oT #[vS "turning" 398,vS "term" 399,vS "tree" 400]
noncomputable def K25.x175 (P:Params):Obj:=oC #[vS "many_by" 395,vS "many_by" 396,cP 397,vI 79 0,vI 3 0,i0,i0,i3,vR 170,vT,i1,vR 171,vN,vR 172,vR 173,vR 174,vI 401 0,vI 79 0,cP 402]
noncomputable def K25.x176 (P:Params):Obj:=oF vF "many_by" "many_by" (top 28) 3 (34:) (vR 175)
noncomputable def K25.x179 (P:Params):Obj:=oT #[vS "turning" 407,vS "term" 408,vS "tree" 409]
noncomputable def K25.x182 (P:Params):Obj:=oC #[vS "tall_by" 404,vS "tall_by" 405,cP 406,vI 81 0,vI 3 0,i0,i0,i3,vR 177,vT,i1,vR 178,vN,vR 179,vR 180,vR 181,vI 410 0,vI 81 0,cP 411]
noncomputable def K25.x183 (P:Params):Obj:=oF vF "tall_by" "tall_by" (top 29) 3 (34:) (vR 182)
noncomputable def K25.x186 (P:Params):Obj:=oT #[vS "turning" 416,vS "tree" 417,vS "place" 418]
noncomputable def K25.x189 (P:Params):Obj:=oC #[vS "seen" 413,vS "seen" 414,cP 415,vI 83 0,vI 3 0,i0,i0,i3,vR 184,vT,i1,vR 185,vN,vR 186,vR 187,vR 188,vI 419 0,vI 83 0,cP 420]
noncomputable def K25.x190 (P:Params):Obj:=oF vF "seen" "seen" (top 30) 3 (34:) (vR 189)
noncomputable def K25.x193 (P:Params):Obj:=oT #[vS "turning" 425,vS "mode" 426,vS "tree" 427,vS "place" 428]
noncomputable def K25.x196 (P:Params):Obj:=oC #[vS "seen_in" 422,vS "seen_in" 423,cP 424,vI 86 0,vI 4 0,i0,i0,i3,vR 191,vT,i1,vR 192,vN,vR 193,vR 194,vR 195,vI 429 0,vI 86 0,cP 430]
noncomputable def K25.x197 (P:Params):Obj:=oF vF "seen_in" "seen_in" (top 31) 3 (34:) (vR 196)
noncomputable def K25.x200 (P:Params):Obj:=oT #[vS "turning" 435,vS "term" 436,vS "tree" 437,vS "place" 438,vS "here" 439,vS "number" 440,vS "parts" 441]
noncomputable def K25.x203 (P:Params):Obj:=oC #[vS "seen_by" 432,vS "seen_by" 433,cP 434,vI 89 0,vI 4 0,i0,i0,i3,vR 198,vT,i1,vR 199,vN,vR 200,vR 201,vR 202,vI 442 0,vI 89 0,cP 443]
noncomputable def K25.x204 (P:Params):Obj:=oF vF "seen_by" "seen_by" (top 32) 3 (34:) (vR 203)
noncomputable def K25.x207 (P:Params):Obj:=oT #[vS "turning" 448,vS "term" 449,vS "tree" 450,vS "rule" 451,vS "read" 452,vS "mode" 453]
noncomputable def K25.x210 (P:Params):Obj:=oC #[vS "first_put" 445,vS "first_put" 446,cP 447,vI 97 0,vI 3 0,i0,i0,i3,vR 205,vT,i1,vR 206,vN,vR 207,vR 208,vR 209,vI 454 0,vI 97 0,cP 455]
noncomputable def K25.x211 (P:Params):Obj:=oF vF "first_put" "first_put" (top 33) 3 (34:) (vR 210)
noncomputable def K25.x217 (P:Params):Obj:=oC #[vS "turned" 463,vS "turned" 464,cP 465,vI 108 0,vI 2 0,i0,i0,i3,vR 212,vT,i1,vR 213,vN,vR 214,vR 215,vR 216,vI 468 0,vI 108 0,cP 469]
noncomputable def K25.x218 (P:Params):Obj:=oF vF "turned" "turned" (top 37) 3 (vS "turnery.running" 457) (vR 217)
noncomputable def K25.x221 (P:Params):Obj:=oT #[vS "turning" 474,vS "mode" 475,vS "tree" 476]
noncomputable def K25.x224 (P:Params):Obj:=oC #[vS "turned_in" 471,vS "turned_in" 472,cP 473,vI 111 0,vI 3 0,i0,i0,i3,vR 219,vT,i1,vR 220,vN,vR 221,vR 222,vR 223,vI 477 0,vI 111 0,cP 478]
noncomputable def K25.x225 (P:Params):Obj:=oF vF "turned_in" "turned_in" (top 38) 3 (vS "turnery.running" 457) (vR 224)
noncomputable def K25.x228 (P:Params):Obj:=oT #[vS "turning" 483,vS "term" 484,vS "tree" 485]
noncomputable def K25.x231 (P:Params):Obj:=oC #[vS "turned_by" 480,vS "turned_by" 481,cP 482,vI 114 0,vI 3 0,i0,i0,i3,vR 226,vT,i1,vR 227,vN,vR 228,vR 229,vR 230,vI 486 0,vI 114 0,cP 487]
noncomputable def K25.x232 (P:Params):Obj:=oF vF "turned_by" "turned_by" (top 39) 3 (vS "turnery.running" 457) (vR 231)
noncomputable def K25.x235 (P:Params):Obj:=oT #[vS "_law_script" 494,vS "_law_k" 495]
noncomputable def K25.x238 (P:Params):Obj:=oC #[vS "_law_cell_at" 491,vS "_law_cell_at" 492,cP 493,vI 121 0,vI 2 0,i0,i0,i3,vR 233,vT,i1,vR 234,vN,vR 235,vR 236,vR 237,vI 496 0,vI 121 0,cP 497]
noncomputable def K25.x239 (P:Params):Obj:=oF vF "_law_cell_at" "_law_cell_at" (top 41) 3 (3:) (vR 238)
noncomputable def K25.x242 (P:Params):Obj:=oT #[vS "_law_cell" 502,vS "_law_k" 503,vS "_law_number" 504]
noncomputable def K25.x245 (P:Params):Obj:=oC #[vS "_law_mixed" 499,vS "_law_mixed" 500,cP 501,vI 125 0,vI 2 0,i0,i0,i3,vR 240,vT,i1,vR 241,vN,vR 242,vR 243,vR 244,vI 505 0,vI 125 0,cP 506]
noncomputable def K25.x246 (P:Params):Obj:=oF vF "_law_mixed" "_law_mixed" (top 42) 3 (3:) (vR 245)
noncomputable def K25.x250 (P:Params):Obj:=oC #[vS "_law_names" 508,vS "_law_names" 509,cP 510,vI 129 0,vI 1 0,i0,i0,i3,vR 247,vT,i1,vR 248,vN,vN,vN,vR 249,vI 511 0,vI 129 0,cP 512]
noncomputable def K25.x251 (P:Params):Obj:=oF vF "_law_names" "_law_names" (top 43) 3 (3:) (vR 250)
noncomputable def K25.x257 (P:Params):Obj:=oC #[vS "_law_great" 514,vS "_law_great" 515,cP 516,vI 142 0,vI 1 0,i0,i0,i3,vR 252,vT,i1,vR 253,vN,vR 254,vR 255,vR 256,vI 518 0,vI 142 0,cP 519]
noncomputable def K25.x258 (P:Params):Obj:=oF vF "_law_great" "_law_great" (top 44) 3 (3:) (vR 257)
noncomputable def K25.x262 (P:Params):Obj:=oC #[vS "_law_wood" 521,vS "_law_wood" 522,cP 523,vI 144 0,vI 2 0,i0,i0,i3,vR 259,vT,i1,vR 260,vN,vN,vN,vR 261,vI 524 0,vI 144 0,cP 525]
noncomputable def K25.x263 (P:Params):Obj:=oF vF "_law_wood" "_law_wood" (top 45) 3 (3:) (vR 262)
noncomputable def K25.x267 (P:Params):Obj:=oC #[vS "_law_term" 527,vS "_law_term" 528,cP 529,vI 157 0,vI 6 0,i0,i0,i3,vR 264,vT,i1,vR 265,vN,vN,vN,vR 266,vI 530 0,vI 157 0,cP 531]
noncomputable def K25.x268 (P:Params):Obj:=oF vF "_law_term" "_law_term" (top 46) 3 (3:) (vR 267)
noncomputable def K25.x272 (P:Params):Obj:=oC #[vS "_law_calls" 533,vS "_law_calls" 534,cP 535,vI 168 0,vI 2 0,i0,i0,i3,vR 269,vT,i1,vR 270,vN,vN,vN,vR 271,vI 536 0,vI 168 0,cP 537]
noncomputable def K25.x273 (P:Params):Obj:=oF vF "_law_calls" "_law_calls" (top 47) 3 (3:) (vR 272)
noncomputable def K25.x277 (P:Params):Obj:=oC #[vS "_law_turning" 539,vS "_law_turning" 540,cP 541,vI 173 0,vI 3 0,i0,i0,i3,vR 274,vT,i1,vR 275,vN,vN,vN,vR 276,vI 542 0,vI 173 0,cP 543]
noncomputable def K25.x278 (P:Params):Obj:=oF vF "_law_turning" "_law_turning" (top 48) 3 (3:) (vR 277)
noncomputable def K25.x281 (P:Params):Obj:=oT #[vS "_law_cell" 548,vS "_law_number" 549]
noncomputable def K25.x284 (P:Params):Obj:=oC #[vS "_law_mark" 545,vS "_law_mark" 546,cP 547,vI 188 0,vI 2 0,i0,i0,i3,vR 279,vT,i1,vR 280,vN,vR 281,vR 282,vR 283,vI 550 0,vI 188 0,cP 551]
noncomputable def K25.x285 (P:Params):Obj:=oF vF "_law_mark" "_law_mark" (top 49) 3 (3:) (vR 284)
noncomputable def K25.x289 (P:Params):Obj:=oC #[vS "_law_grown" 553,vS "_law_grown" 554,cP 555,vI 190 0,vI 3 0,i0,i0,i3,vR 286,vT,i1,vR 287,vN,vN,vN,vR 288,vI 556 0,vI 190 0,cP 557]
noncomputable def K25.x290 (P:Params):Obj:=oF vF "_law_grown" "_law_grown" (top 50) 3 (3:) (vR 289)
noncomputable def K25.x294 (P:Params):Obj:=oC #[vS "_law_built" 559,vS "_law_built" 560,cP 561,vI 209 0,vI 2 0,i0,i0,i3,vR 291,vT,i1,vR 292,vN,vN,vN,vR 293,vI 562 0,vI 209 0,cP 563]
noncomputable def K25.x295 (P:Params):Obj:=oF vF "_law_built" "_law_built" (top 51) 3 (3:) (vR 294)
noncomputable def K25.x299 (P:Params):Obj:=oC #[vS "_law_copy" 565,vS "_law_copy" 566,cP 567,vI 218 0,vI 1 0,i0,i0,i3,vR 296,vT,i1,vR 297,vN,vN,vN,vR 298,vI 568 0,vI 218 0,cP 569]
noncomputable def K25.x300 (P:Params):Obj:=oF vF "_law_copy" "_law_copy" (top 52) 3 (3:) (vR 299)
noncomputable def K25.x303 (P:Params):Obj:=oT #[vS "_law_wood_here" 574,vS "_law_kind" 575,vS "_law_tree" 576,vS "_law_row" 577,vS "_law_needed" 578,vS "_law_branch" 579]
noncomputable def K25.x306 (P:Params):Obj:=oC #[vS "_law_of_kind" 571,vS "_law_of_kind" 572,cP 573,vI 221 0,vI 3 0,i0,i0,i3,vR 301,vT,i1,vR 302,vN,vR 303,vR 304,vR 305,vI 580 0,vI 221 0,cP 581]
noncomputable def K25.x307 (P:Params):Obj:=oF vF "_law_of_kind" "_law_of_kind" (top 53) 3 (3:) (vR 306)
noncomputable def K25.x310 (P:Params):Obj:=oT #[vS "_law_names_here" 586,vS "_law_tree" 587,vS "_law_number" 588,vS "_law_mark_here" 589,vS "_law_branches" 590]
noncomputable def K25.x313 (P:Params):Obj:=oC #[vS "_law_spoiled" 583,vS "_law_spoiled" 584,cP 585,vI 231 0,vI 4 0,i0,i0,i3,vR 308,vT,i1,vR 309,vN,vR 310,vR 311,vR 312,vI 591 0,vI 231 0,cP 592]
noncomputable def K25.x314 (P:Params):Obj:=oF vF "_law_spoiled" "_law_spoiled" (top 54) 3 (3:) (vR 313)
noncomputable def K25.x318 (P:Params):Obj:=oC #[vS "_law_respelled" 594,vS "_law_respelled" 595,cP 596,vI 247 0,vI 4 0,i0,i0,i3,vR 315,vT,i1,vR 316,vN,vN,vN,vR 317,vI 597 0,vI 247 0,cP 598]
noncomputable def K25.x319 (P:Params):Obj:=oF vF "_law_respelled" "_law_respelled" (top 55) 3 (3:) (vR 318)
noncomputable def K25.x322 (P:Params):Obj:=oT #[vS "_law_turning_here" 603,vS "_law_mode" 604,vS "_law_tree" 605,vS "_law_ask" 606]
noncomputable def K25.x325 (P:Params):Obj:=oC #[vS "_law_asked" 600,vS "_law_asked" 601,cP 602,vI 259 0,vI 4 0,i0,i0,i3,vR 320,vT,i1,vR 321,vN,vR 322,vR 323,vR 324,vI 607 0,vI 259 0,cP 608]
noncomputable def K25.x326 (P:Params):Obj:=oF vF "_law_asked" "_law_asked" (top 56) 3 (3:) (vR 325)
noncomputable def K25.x329 (P:Params):Obj:=oT #[vS "_law_turning_here" 613,vS "_law_mode" 614,vS "_law_tree" 615,vS "_law_ask" 616,vS "_law_due" 617,vS "_law_refused" 618,vS "_law_plain" 619,vS "e" 620]
noncomputable def K25.x332 (P:Params):Obj:=oC #[vS "_law_right" 610,vS "_law_right" 611,cP 612,vI 271 0,vI 5 0,i0,i0,i3,vR 327,vT,i1,vR 328,vN,vR 329,vR 330,vR 331,vI 621 0,vI 271 0,cP 622]
noncomputable def K25.x333 (P:Params):Obj:=oF vF "_law_right" "_law_right" (top 57) 3 (3:) (vR 332)
noncomputable def K25.x336 (P:Params):Obj:=oT #[vS "_law_script" 627,vS "_law_names_here" 628,vS "_law_wood_here" 629,vS "_law_turning_here" 630,vS "_law_nodes" 631,vS "_law_tree" 632,vS "_law_spoiled_here" 633,vS "_law_handed" 634,vS "_law_mode" 635,vS "_law_kind" 636,vS "_law_ask" 637,vS "_law_needed" 638,vS "_law_one" 639]
noncomputable def K25.x339 (P:Params):Obj:=oC #[vS "law" 624,vS "law" 625,cP 626,vI 282 0,vI 1 0,i0,i0,i3,vR 334,vT,i1,vR 335,vN,vR 336,vR 337,vR 338,vI 640 0,vI 282 0,cP 641]
noncomputable def K25.x340 (P:Params):Obj:=oF vF "law" "law" (top 58) 3 (3:) (vR 339)
noncomputable def K25.hp:Params→PySem.W.Frag:=fun P=>[(2,Obj.mk vN none (Data.dict #[]) #[]),(3,x3 P),(15,oT #[]),(17,oT #[vS "term" 192]),(18,oT #[]),(20,x20 P),(21,x21 P),(22,oT #[]),(24,x24 P),(25,oT #[]),(27,x27 P),(28,x28 P),(29,oT #[]),(31,oT #[vS "term" 208,vS "mark" 209]),(32,oT #[]),(34,x34 P),(35,x35 P),(36,oT #[]),(38,oT #[vS "term" 216,vS "mark" 217]),(39,oT #[]),(41,x41 P),(42,x42 P),(43,oT #[Value.type "ValueError"]),(50,oT #[]),(51,x51 P),(52,x52 P),(53,x53 P),(56,oT #[vR 52]),(63,oT #[]),(64,x64 P),(65,x65 P),(68,oT #[vR 52]),(75,oT #[]),(76,x76 P),(77,x77 P),(80,oT #[]),(82,oT #[vS "branches" 278,vS "number" 279]),(83,oT #[]),(85,x85 P),(86,x86 P),(87,oT #[]),(89,oT #[vS "wood" 288,vS "kind" 289]),(90,oT #[]),(92,x92 P),(93,x93 P),(94,oT #[]),(96,x96 P),(97,oT #[]),(99,x99 P),(100,x100 P),(101,oT #[]),(104,x104 P),(105,x105 P),(106,oT #[]),(108,x108 P),(109,oT #[]),(111,x111 P),(112,x112 P),(113,oT #[]),(115,oT #[vS "wood" 320,vS "tree" 321]),(116,oT #[]),(118,x118 P),(119,x119 P),(120,oT #[]),(122,x122 P),(123,oT #[]),(125,x125 P),(126,x126 P),(127,oT #[]),(129,x129 P),(130,oT #[]),(132,x132 P),(133,x133 P),(134,oT #[]),(136,oT #[vS "tree" 355]),(137,oT #[]),(139,x139 P),(140,x140 P),(141,oT #[]),(144,x144 P),(145,x145 P),(146,oT #[]),(149,x149 P),(150,x150 P),(151,oT #[]),(154,x154 P),(155,x155 P),(156,oT #[]),(158,oT #[vS "turning" 382,vS "tree" 383]),(159,oT #[]),(161,x161 P),(162,x162 P),(163,oT #[]),(165,oT #[vS "turning" 390,vS "tree" 391]),(166,oT #[]),(168,x168 P),(169,x169 P),(170,oT #[]),(172,x172 P),(173,oT #[]),(175,x175 P),(176,x176 P),(177,oT #[]),(179,x179 P),(180,oT #[]),(182,x182 P),(183,x183 P),(184,oT #[]),(186,x186 P),(187,oT #[]),(189,x189 P),(190,x190 P),(191,oT #[]),(193,x193 P),(194,oT #[]),(196,x196 P),(197,x197 P),(198,oT #[]),(200,x200 P),(201,oT #[]),(203,x203 P),(204,x204 P),(205,oT #[]),(207,x207 P),(208,oT #[]),(210,x210 P),(211,x211 P),(212,oT #[]),(214,oT #[vS "turning" 466,vS "tree" 467]),(215,oT #[]),(217,x217 P),(218,x218 P),(219,oT #[]),(221,x221 P),(222,oT #[]),(224,x224 P),(225,x225 P),(226,oT #[]),(228,x228 P),(229,oT #[]),(231,x231 P),(232,x232 P),(233,oT #[]),(235,x235 P),(236,oT #[]),(238,x238 P),(239,x239 P),(240,oT #[]),(242,x242 P),(243,oT #[]),(245,x245 P),(246,x246 P),(247,oT #[]),(250,x250 P),(251,x251 P),(252,oT #[]),(254,oT #[vS "_law_cell" 517]),(255,oT #[]),(257,x257 P),(258,x258 P),(259,oT #[]),(262,x262 P),(263,x263 P),(264,oT #[]),(267,x267 P),(268,x268 P),(269,oT #[]),(272,x272 P),(273,x273 P),(274,oT #[]),(277,x277 P),(278,x278 P),(279,oT #[]),(281,x281 P),(282,oT #[]),(284,x284 P),(285,x285 P),(286,oT #[]),(289,x289 P),(290,x290 P),(291,oT #[]),(294,x294 P),(295,x295 P),(296,oT #[]),(299,x299 P),(300,x300 P),(301,oT #[]),(303,x303 P),(304,oT #[]),(306,x306 P),(307,x307 P),(308,oT #[]),(310,x310 P),(311,oT #[]),(313,x313 P),(314,x314 P),(315,oT #[]),(318,x318 P),(319,x319 P),(320,oT #[]),(322,x322 P),(323,oT #[]),(325,x325 P),(326,x326 P),(327,oT #[]),(329,x329 P),(330,oT #[]),(332,x332 P),(333,x333 P),(334,oT #[]),(336,x336 P),(337,oT #[]),(339,x339 P),(340,x340 P)]
end
noncomputable def PySem.W.Fast.tw6663590464811766659:PySem.Params→PySem.W.Frag:=K25.hp
theorem PySem.W.Fast.te6663590464811766659:K25.hp=PySem.W.Fast.tw6663590464811766659:=rfl
namespace PySem.W.Fast
open PySem K25
noncomputable def tw12016976235780604225:Params→Obj:=fun P=>oF vF "need_of" "need_of" (top 15) 3 (vS "turnery.woods" 283) (vR 111)
theorem te12016976235780604225:tw12016976235780604225=tw12016976235780604225:=rfl
noncomputable def tw7133994743416662941:Params→Obj:=fun P=>oF vN "mark_put" "mark_put" (top 3) 0 vN vN
theorem te7133994743416662941:tw7133994743416662941=tw7133994743416662941:=rfl
noncomputable def tw8728150339991971043:Params→Obj:=fun P=>oF vN "tall" "tall" (top 27) 0 vN vN
theorem te8728150339991971043:tw8728150339991971043=tw8728150339991971043:=rfl
noncomputable def tw15457494140838916446:Params→Obj:=fun P=>oF vF "_law_respelled" "_law_respelled" (top 55) 3 (3:) (vR 318)
theorem te15457494140838916446:tw15457494140838916446=tw15457494140838916446:=rfl
noncomputable def tw13694555746485259203:Params→Obj:=fun P=>oF vF "_law_grown" "_law_grown" (top 50) 3 (3:) (vR 289)
theorem te13694555746485259203:tw13694555746485259203=tw13694555746485259203:=rfl
noncomputable def tw6050157733271943855:Params→Obj:=fun P=>oF vF "_law_calls" "_law_calls" (top 47) 3 (3:) (vR 272)
theorem te6050157733271943855:tw6050157733271943855=tw6050157733271943855:=rfl
noncomputable def tw3239117184954813434:Params→Obj:=fun P=>oF vF "first_put" "first_put" (top 33) 3 (34:) (vR 210)
theorem te3239117184954813434:tw3239117184954813434=tw3239117184954813434:=rfl
noncomputable def tw2741869007718580978:Params→Obj:=fun P=>oF vN "rule_of" "rule_of" (top 18) 0 vN vN
theorem te2741869007718580978:tw2741869007718580978=tw2741869007718580978:=rfl
noncomputable def tw3729090250486827758:Params→Obj:=fun P=>oF vN "seen_by" "seen_by" (top 32) 0 vN vN
theorem te3729090250486827758:tw3729090250486827758=tw3729090250486827758:=rfl
noncomputable def tw6220669953814150106:Params→Obj:=fun P=>oF vN "reckoned" "reckoned" (top 22) 0 vN vN
theorem te6220669953814150106:tw6220669953814150106=tw6220669953814150106:=rfl
noncomputable def tw4472931528777996684:Params→Obj:=fun P=>oF vN "_law_grown" "_law_grown" (top 50) 0 vN vN
theorem te4472931528777996684:tw4472931528777996684=tw4472931528777996684:=rfl
noncomputable def tw8683218607105194314:Params→Obj:=fun P=>oF vN "put_head" "put_head" (top 4) 0 vN vN
theorem te8683218607105194314:tw8683218607105194314=tw8683218607105194314:=rfl
noncomputable def tw17554449420323500391:Params→Obj:=fun P=>oF vN "_law_wood" "_law_wood" (top 45) 0 vN vN
theorem te17554449420323500391:tw17554449420323500391=tw17554449420323500391:=rfl
noncomputable def tw7122254781043350380:Params→Obj:=fun P=>oF vN "many" "many" (top 26) 0 vN vN
theorem te7122254781043350380:tw7122254781043350380=tw7122254781043350380:=rfl
noncomputable def tw18404254997151769195:Params→Obj:=fun P=>oF vN "is_call" "is_call" (top 1) 0 vN vN
theorem te18404254997151769195:tw18404254997151769195=tw18404254997151769195:=rfl
noncomputable def tw10861813825665866174:Params→Obj:=fun P=>oF vN "many_by" "many_by" (top 28) 0 vN vN
theorem te10861813825665866174:tw10861813825665866174=tw10861813825665866174:=rfl
noncomputable def tw3996069209960570038:Params→Obj:=fun P=>oF vN "row_of" "row_of" (top 13) 0 vN vN
theorem te3996069209960570038:tw3996069209960570038=tw3996069209960570038:=rfl
noncomputable def tw6631393015926028533:Params→Obj:=fun P=>oF vF "_law_built" "_law_built" (top 51) 3 (3:) (vR 294)
theorem te6631393015926028533:tw6631393015926028533=tw6631393015926028533:=rfl
noncomputable def tw15598732314214668747:Params→Obj:=fun P=>oF vF "filled" "filled" (top 24) 3 (vS "turnery.outcomes" 340) (vR 154)
theorem te15598732314214668747:tw15598732314214668747=tw15598732314214668747:=rfl
noncomputable def tw733963841691959303:Params→Obj:=fun P=>oF vN "_law_right" "_law_right" (top 57) 0 vN vN
theorem te733963841691959303:tw733963841691959303=tw733963841691959303:=rfl
noncomputable def tw11478075415901163591:Params→Obj:=fun P=>oF vN "turned_in" "turned_in" (top 38) 0 vN vN
theorem te11478075415901163591:tw11478075415901163591=tw11478075415901163591:=rfl
noncomputable def tw17441614260217854029:Params→Obj:=fun P=>oF vF "seen" "seen" (top 30) 3 (34:) (vR 189)
theorem te17441614260217854029:tw17441614260217854029=tw17441614260217854029:=rfl
noncomputable def tw14044848872040699465:Params→Obj:=fun P=>oF vF "turned" "turned" (top 37) 3 (vS "turnery.running" 457) (vR 217)
theorem te14044848872040699465:tw14044848872040699465=tw14044848872040699465:=rfl
noncomputable def tw13234910095806342938:Params→Obj:=fun P=>oF vF "above" "above" (top 21) 3 (vS "turnery.outcomes" 340) (vR 139)
theorem te13234910095806342938:tw13234910095806342938=tw13234910095806342938:=rfl
noncomputable def tw306129686352620691:Params→Obj:=fun P=>oF vF "rows_of" "rows_of" (top 12) 3 (vS "turnery.woods" 283) (vR 92)
theorem te306129686352620691:tw306129686352620691=tw306129686352620691:=rfl
noncomputable def tw7048329076500656059:Params→Obj:=fun P=>oF vF "is_of" "is_of" (top 14) 3 (vS "turnery.woods" 283) (vR 104)
theorem te7048329076500656059:tw7048329076500656059=tw7048329076500656059:=rfl
noncomputable def tw4783931608007925915:Params→Obj:=fun P=>oF vN "need_of" "need_of" (top 15) 0 vN vN
theorem te4783931608007925915:tw4783931608007925915=tw4783931608007925915:=rfl
noncomputable def tw9878007886087510670:Params→Obj:=fun P=>oF vF "_law_term" "_law_term" (top 46) 3 (3:) (vR 267)
theorem te9878007886087510670:tw9878007886087510670=tw9878007886087510670:=rfl
noncomputable def tw17174820071109938668:Params→Obj:=fun P=>oF vF "seen_in" "seen_in" (top 31) 3 (34:) (vR 196)
theorem te17174820071109938668:tw17174820071109938668=tw17174820071109938668:=rfl
noncomputable def tw1240266471137705889:Params→Obj:=fun P=>oF vN "calls_of" "calls_of" (top 2) 0 vN vN
theorem te1240266471137705889:tw1240266471137705889=tw1240266471137705889:=rfl
noncomputable def tw14345725903016897870:Params→Obj:=fun P=>oF vN "first_put" "first_put" (top 33) 0 vN vN
theorem te14345725903016897870:tw14345725903016897870=tw14345725903016897870:=rfl
noncomputable def tw689696210509558909:Params→Obj:=fun P=>oF vN "_law_respelled" "_law_respelled" (top 55) 0 vN vN
theorem te689696210509558909:tw689696210509558909=tw689696210509558909:=rfl
noncomputable def tw8344149344877199624:Params→Obj:=fun P=>oF vF "_law_spoiled" "_law_spoiled" (top 54) 3 (3:) (vR 313)
theorem te8344149344877199624:tw8344149344877199624=tw8344149344877199624:=rfl
noncomputable def tw10958099135614186257:Params→Obj:=fun P=>oF vF "rule_of" "rule_of" (top 18) 3 (vS "turnery.turnings" 325) (vR 125)
theorem te10958099135614186257:tw10958099135614186257=tw10958099135614186257:=rfl
noncomputable def tw4466956002634869607:Params→Obj:=fun P=>oF vN "seen_in" "seen_in" (top 31) 0 vN vN
theorem te4466956002634869607:tw4466956002634869607=tw4466956002634869607:=rfl
noncomputable def tw14941296586421624544:Params→Obj:=fun P=>oF vF "calls_of" "calls_of" (top 2) 3 (vS "turnery.terms" 187) (vR 27)
theorem te14941296586421624544:tw14941296586421624544=tw14941296586421624544:=rfl
noncomputable def tw250797987910843487:Params→Obj:=fun P=>oF vN "seen" "seen" (top 30) 0 vN vN
theorem te250797987910843487:tw250797987910843487=tw250797987910843487:=rfl
noncomputable def tw5317523805897525196:Params→Obj:=fun P=>oF vF "tall" "tall" (top 27) 3 (34:) (vR 168)
theorem te5317523805897525196:tw5317523805897525196=tw5317523805897525196:=rfl
noncomputable def tw14729167402279058861:Params→Obj:=fun P=>oF vN "rows_of" "rows_of" (top 12) 0 vN vN
theorem te14729167402279058861:tw14729167402279058861=tw14729167402279058861:=rfl
noncomputable def tw5785556091681329696:Params→Obj:=fun P=>oF vN "_law_cell_at" "_law_cell_at" (top 41) 0 vN vN
theorem te5785556091681329696:tw5785556091681329696=tw5785556091681329696:=rfl
noncomputable def tw3762939569710041749:Params→Obj:=fun P=>oF vN "_law_mixed" "_law_mixed" (top 42) 0 vN vN
theorem te3762939569710041749:tw3762939569710041749=tw3762939569710041749:=rfl
noncomputable def tw14922174294489689319:Params→Obj:=fun P=>oF vN "_law_built" "_law_built" (top 51) 0 vN vN
theorem te14922174294489689319:tw14922174294489689319=tw14922174294489689319:=rfl
noncomputable def tw2928489626542687919:Params→Obj:=fun P=>oF vF "_law_asked" "_law_asked" (top 56) 3 (3:) (vR 325)
theorem te2928489626542687919:tw2928489626542687919=tw2928489626542687919:=rfl
noncomputable def tw4935864537004758781:Params→Obj:=fun P=>oF vN "turned" "turned" (top 37) 0 vN vN
theorem te4935864537004758781:tw4935864537004758781=tw4935864537004758781:=rfl
noncomputable def tw14328365699751157347:Params→Obj:=fun P=>oF vF "turned_in" "turned_in" (top 38) 3 (vS "turnery.running" 457) (vR 224)
theorem te14328365699751157347:tw14328365699751157347=tw14328365699751157347:=rfl
noncomputable def tw1179068294051045651:Params→Obj:=fun P=>oF vN "is_of" "is_of" (top 14) 0 vN vN
theorem te1179068294051045651:tw1179068294051045651=tw1179068294051045651:=rfl
noncomputable def tw13361445594325035336:Params→Obj:=fun P=>oF vF "_law_mixed" "_law_mixed" (top 42) 3 (3:) (vR 245)
theorem te13361445594325035336:tw13361445594325035336=tw13361445594325035336:=rfl
noncomputable def tw15843172713216441956:Params→Obj:=fun P=>oF vF "turned_by" "turned_by" (top 39) 3 (vS "turnery.running" 457) (vR 231)
theorem te15843172713216441956:tw15843172713216441956=tw15843172713216441956:=rfl
noncomputable def tw11091543806560562919:Params→Obj:=fun P=>oF vN "_law_calls" "_law_calls" (top 47) 0 vN vN
theorem te11091543806560562919:tw11091543806560562919=tw11091543806560562919:=rfl
noncomputable def tw13651033448073330444:Params→Obj:=fun P=>oF vN "turned_by" "turned_by" (top 39) 0 vN vN
theorem te13651033448073330444:tw13651033448073330444=tw13651033448073330444:=rfl
noncomputable def tw11797346810821549424:Params→Obj:=fun P=>oF vF "law" "law" (top 58) 3 (3:) (vR 339)
theorem te11797346810821549424:tw11797346810821549424=tw11797346810821549424:=rfl
noncomputable def tw1604940521595962079:Params→Obj:=fun P=>oF vN "_law_spoiled" "_law_spoiled" (top 54) 0 vN vN
theorem te1604940521595962079:tw1604940521595962079=tw1604940521595962079:=rfl
noncomputable def tw5247740261124905284:Params→Obj:=fun P=>oF vN "_law_names" "_law_names" (top 43) 0 vN vN
theorem te5247740261124905284:tw5247740261124905284=tw5247740261124905284:=rfl
noncomputable def tw1730795401302472389:Params→Obj:=fun P=>oF vN "called_below" "called_below" (top 23) 0 vN vN
theorem te1730795401302472389:tw1730795401302472389=tw1730795401302472389:=rfl
noncomputable def tw14110800737932452187:Params→Obj:=fun P=>oF vN "filled" "filled" (top 24) 0 vN vN
theorem te14110800737932452187:tw14110800737932452187=tw14110800737932452187:=rfl
noncomputable def tw15301240570310769460:Params→Obj:=fun P=>oF vF "tall_by" "tall_by" (top 29) 3 (34:) (vR 182)
theorem te15301240570310769460:tw15301240570310769460=tw15301240570310769460:=rfl
noncomputable def tw15601193916074740523:Params→Obj:=fun P=>oF vF "row_of" "row_of" (top 13) 3 (vS "turnery.woods" 283) (vR 99)
theorem te15601193916074740523:tw15601193916074740523=tw15601193916074740523:=rfl
noncomputable def tw12875713985387709169:Params→Obj:=fun P=>oF vN "above" "above" (top 21) 0 vN vN
theorem te12875713985387709169:tw12875713985387709169=tw12875713985387709169:=rfl
noncomputable def tw10126876296007432:Params→Obj:=fun P=>oF vN "_law_term" "_law_term" (top 46) 0 vN vN
theorem te10126876296007432:tw10126876296007432=tw10126876296007432:=rfl
noncomputable def tw4898747187698938432:Params→Obj:=fun P=>oF vN "outcome" "outcome" (top 20) 0 vN vN
theorem te4898747187698938432:tw4898747187698938432=tw4898747187698938432:=rfl
noncomputable def tw11393008495745511029:Params→Obj:=fun P=>oF vF "need_in" "need_in" (top 16) 3 (vS "turnery.woods" 283) (vR 118)
theorem te11393008495745511029:tw11393008495745511029=tw11393008495745511029:=rfl
noncomputable def tw9239564570401810670:Params→Obj:=fun P=>oF vF "_law_wood" "_law_wood" (top 45) 3 (3:) (vR 262)
theorem te9239564570401810670:tw9239564570401810670=tw9239564570401810670:=rfl
noncomputable def tw1860467929673532813:Params→Obj:=fun P=>oF vF "_law_great" "_law_great" (top 44) 3 (3:) (vR 257)
theorem te1860467929673532813:tw1860467929673532813=tw1860467929673532813:=rfl
noncomputable def tw2172454581862301520:Params→Obj:=fun P=>oF vF "reckoned" "reckoned" (top 22) 3 (vS "turnery.outcomes" 340) (vR 144)
theorem te2172454581862301520:tw2172454581862301520=tw2172454581862301520:=rfl
noncomputable def tw4213659096251749663:Params→Obj:=fun P=>oF vN "_law_copy" "_law_copy" (top 52) 0 vN vN
theorem te4213659096251749663:tw4213659096251749663=tw4213659096251749663:=rfl
noncomputable def tw1006479782595764333:Params→Obj:=fun P=>oF vF "many" "many" (top 26) 3 (34:) (vR 161)
theorem te1006479782595764333:tw1006479782595764333=tw1006479782595764333:=rfl
noncomputable def tw4915600990428904275:Params→Obj:=fun P=>oF vN "_law_great" "_law_great" (top 44) 0 vN vN
theorem te4915600990428904275:tw4915600990428904275=tw4915600990428904275:=rfl
noncomputable def tw6351004733232055703:Params→Obj:=fun P=>oF vN "need_in" "need_in" (top 16) 0 vN vN
theorem te6351004733232055703:tw6351004733232055703=tw6351004733232055703:=rfl
noncomputable def tw2239668874109159508:Params→Obj:=fun P=>oF vN "_law_of_kind" "_law_of_kind" (top 53) 0 vN vN
theorem te2239668874109159508:tw2239668874109159508=tw2239668874109159508:=rfl
noncomputable def tw5116664813290239933:Params→Obj:=fun P=>oF vF "seen_by" "seen_by" (top 32) 3 (34:) (vR 203)
theorem te5116664813290239933:tw5116664813290239933=tw5116664813290239933:=rfl
noncomputable def tw1718607187702731670:Params→Obj:=fun P=>oF vF "_law_of_kind" "_law_of_kind" (top 53) 3 (3:) (vR 306)
theorem te1718607187702731670:tw1718607187702731670=tw1718607187702731670:=rfl
noncomputable def tw9781680558615023363:Params→Obj:=fun P=>oF vF "put_head" "put_head" (top 4) 3 (vS "turnery.terms" 187) (vR 41)
theorem te9781680558615023363:tw9781680558615023363=tw9781680558615023363:=rfl
noncomputable def tw10736710901377916287:Params→Obj:=fun P=>oF vF "_law_turning" "_law_turning" (top 48) 3 (3:) (vR 277)
theorem te10736710901377916287:tw10736710901377916287=tw10736710901377916287:=rfl
noncomputable def tw1722514909403837411:Params→Obj:=fun P=>oF vF "called_below" "called_below" (top 23) 3 (vS "turnery.outcomes" 340) (vR 149)
theorem te1722514909403837411:tw1722514909403837411=tw1722514909403837411:=rfl
noncomputable def tw8298470270931944096:Params→Obj:=fun P=>oF vN "_law_turning" "_law_turning" (top 48) 0 vN vN
theorem te8298470270931944096:tw8298470270931944096=tw8298470270931944096:=rfl
noncomputable def tw16079012717274960975:Params→Obj:=fun P=>oF vF "_law_mark" "_law_mark" (top 49) 3 (3:) (vR 284)
theorem te16079012717274960975:tw16079012717274960975=tw16079012717274960975:=rfl
noncomputable def tw16304798287089405958:Params→Obj:=fun P=>oF vF "is_call" "is_call" (top 1) 3 (vS "turnery.terms" 187) (vR 20)
theorem te16304798287089405958:tw16304798287089405958=tw16304798287089405958:=rfl
noncomputable def tw3157923430894926439:Params→Obj:=fun P=>oF vN "_law_asked" "_law_asked" (top 56) 0 vN vN
theorem te3157923430894926439:tw3157923430894926439=tw3157923430894926439:=rfl
noncomputable def tw15559728480981407836:Params→Obj:=fun P=>oF vF "many_by" "many_by" (top 28) 3 (34:) (vR 175)
theorem te15559728480981407836:tw15559728480981407836=tw15559728480981407836:=rfl
noncomputable def tw1304348305452989203:Params→Obj:=fun P=>oF vF "outcome" "outcome" (top 20) 3 (vS "turnery.outcomes" 340) (vR 132)
theorem te1304348305452989203:tw1304348305452989203=tw1304348305452989203:=rfl
noncomputable def tw6593373991574469073:Params→Obj:=fun P=>oF vF "_law_names" "_law_names" (top 43) 3 (3:) (vR 250)
theorem te6593373991574469073:tw6593373991574469073=tw6593373991574469073:=rfl
noncomputable def tw3285698662702862272:Params→Obj:=fun P=>oF vF "_law_cell_at" "_law_cell_at" (top 41) 3 (3:) (vR 238)
theorem te3285698662702862272:tw3285698662702862272=tw3285698662702862272:=rfl
noncomputable def tw11663122982253595996:Params→Obj:=fun P=>oF vF "_law_copy" "_law_copy" (top 52) 3 (3:) (vR 299)
theorem te11663122982253595996:tw11663122982253595996=tw11663122982253595996:=rfl
noncomputable def tw12383888945323196217:Params→Obj:=fun P=>oF vN "tall_by" "tall_by" (top 29) 0 vN vN
theorem te12383888945323196217:tw12383888945323196217=tw12383888945323196217:=rfl
noncomputable def tw14367776862228452970:Params→Obj:=fun P=>oF vN "law" "law" (top 58) 0 vN vN
theorem te14367776862228452970:tw14367776862228452970=tw14367776862228452970:=rfl
noncomputable def tw2508875903699384324:Params→Obj:=fun P=>oF vF "_law_right" "_law_right" (top 57) 3 (3:) (vR 332)
theorem te2508875903699384324:tw2508875903699384324=tw2508875903699384324:=rfl
noncomputable def tw16538019312649955424:Params→Obj:=fun P=>oF vN "has_number" "has_number" (top 10) 0 vN vN
theorem te16538019312649955424:tw16538019312649955424=tw16538019312649955424:=rfl
noncomputable def tw11631724389054501614:Params→Obj:=fun P=>oF vF "mark_put" "mark_put" (top 3) 3 (vS "turnery.terms" 187) (vR 34)
theorem te11631724389054501614:tw11631724389054501614=tw11631724389054501614:=rfl
noncomputable def tw9037591412036978849:Params→Obj:=fun P=>oF vF "has_number" "has_number" (top 10) 3 (vS "turnery.trees" 273) (vR 85)
theorem te9037591412036978849:tw9037591412036978849=tw9037591412036978849:=rfl
noncomputable def tw346534115496024026:Params→Obj:=fun P=>oF vN "_law_mark" "_law_mark" (top 49) 0 vN vN
theorem te346534115496024026:tw346534115496024026=tw346534115496024026:=rfl
end PySem.W.Fast
noncomputable def PySem.W.Fast.tw7055855418601404903:PySem.Program:=PySem.Challenge.pw_turnery_k25_trees_of_no_kind
theorem PySem.W.Fast.te7055855418601404903:(PySem.Challenge.pw_turnery_k25_trees_of_no_kind:PySem.Program)=PySem.W.Fast.tw7055855418601404903:=rfl
noncomputable def PySem.W.Fast.tw2462425035091868926:PySem.Program:={ PySem.Challenge.pw_turnery_k25_trees_of_no_kind with main:={ PySem.Challenge.pw_turnery_k25_trees_of_no_kind.main with body:=[K25.top 1,K25.top 2,K25.top 3,K25.top 4,K25.top 6,K25.top 7,K25.top 8,K25.top 10,K25.top 12,K25.top 13,K25.top 14,K25.top 15,K25.top 16,K25.top 18,K25.top 20,K25.top 21,K25.top 22,K25.top 23,K25.top 24,K25.top 26,K25.top 27,K25.top 28,K25.top 29,K25.top 30,K25.top 31,K25.top 32,K25.top 33,K25.top 35,K25.top 36,K25.top 37,K25.top 38,K25.top 39,K25.top 41,K25.top 42,K25.top 43,K25.top 44,K25.top 45,K25.top 46,K25.top 47,K25.top 48,K25.top 49,K25.top 50,K25.top 51,K25.top 52,K25.top 53,K25.top 54,K25.top 55,K25.top 56,K25.top 57,K25.top 58] } }
theorem PySem.W.Fast.te2462425035091868926:({ PySem.Challenge.pw_turnery_k25_trees_of_no_kind with main:={ PySem.Challenge.pw_turnery_k25_trees_of_no_kind.main with body:=[K25.top 1,K25.top 2,K25.top 3,K25.top 4,K25.top 6,K25.top 7,K25.top 8,K25.top 10,K25.top 12,K25.top 13,K25.top 14,K25.top 15,K25.top 16,K25.top 18,K25.top 20,K25.top 21,K25.top 22,K25.top 23,K25.top 24,K25.top 26,K25.top 27,K25.top 28,K25.top 29,K25.top 30,K25.top 31,K25.top 32,K25.top 33,K25.top 35,K25.top 36,K25.top 37,K25.top 38,K25.top 39,K25.top 41,K25.top 42,K25.top 43,K25.top 44,K25.top 45,K25.top 46,K25.top 47,K25.top 48,K25.top 49,K25.top 50,K25.top 51,K25.top 52,K25.top 53,K25.top 54,K25.top 55,K25.top 56,K25.top 57,K25.top 58] } }:PySem.Program)=PySem.W.Fast.tw2462425035091868926:=rfl
noncomputable def PySem.W.Fast.tw4649473591009301658:List PySem.Stmt:=(PySem.Challenge.pw_turnery_k25_trees_of_no_kind.main.body.drop 0).take 7
theorem PySem.W.Fast.te4649473591009301658:((PySem.Challenge.pw_turnery_k25_trees_of_no_kind.main.body.drop 0).take 7:List PySem.Stmt)=PySem.W.Fast.tw4649473591009301658:=rfl
noncomputable def PySem.W.Fast.tw6416601325974676491:List PySem.Stmt:=(PySem.Challenge.pw_turnery_k25_trees_of_no_kind.main.body.drop 7).take 1
theorem PySem.W.Fast.te6416601325974676491:((PySem.Challenge.pw_turnery_k25_trees_of_no_kind.main.body.drop 7).take 1:List PySem.Stmt)=PySem.W.Fast.tw6416601325974676491:=rfl
noncomputable def PySem.W.Fast.tw16188943369278151438:List PySem.Stmt:=(PySem.Challenge.pw_turnery_k25_trees_of_no_kind.main.body.drop 8).take 8
theorem PySem.W.Fast.te16188943369278151438:((PySem.Challenge.pw_turnery_k25_trees_of_no_kind.main.body.drop 8).take 8:List PySem.Stmt)=PySem.W.Fast.tw16188943369278151438:=rfl
noncomputable def PySem.W.Fast.tw14077712444311212596:List PySem.Stmt:=(PySem.Challenge.pw_turnery_k25_trees_of_no_kind.main.body.drop 16).take 15
theorem PySem.W.Fast.te14077712444311212596:((PySem.Challenge.pw_turnery_k25_trees_of_no_kind.main.body.drop 16).take 15:List PySem.Stmt)=PySem.W.Fast.tw14077712444311212596:=rfl
noncomputable def PySem.W.Fast.tw6428864578394172142:List PySem.Stmt:=(PySem.Challenge.pw_turnery_k25_trees_of_no_kind.main.body.drop 31).take 16
theorem PySem.W.Fast.te6428864578394172142:((PySem.Challenge.pw_turnery_k25_trees_of_no_kind.main.body.drop 31).take 16:List PySem.Stmt)=PySem.W.Fast.tw6428864578394172142:=rfl
noncomputable def PySem.W.Fast.tw18251581477435126984:List PySem.Stmt:=(PySem.Challenge.pw_turnery_k25_trees_of_no_kind.main.body.drop 47).take 12
theorem PySem.W.Fast.te18251581477435126984:((PySem.Challenge.pw_turnery_k25_trees_of_no_kind.main.body.drop 47).take 12:List PySem.Stmt)=PySem.W.Fast.tw18251581477435126984:=rfl
section
open PySem
open K25
noncomputable def K25.x11 (P:Params):Obj:={ cls:=Value.type "tuple", data:=Data.seq #[] }
noncomputable def K25.x12 (P:Params):Obj:={ cls:=vN,data:=Data.fields #[vI 2 0,vI 0 0,vR 20,vI 4 0,vI 0 0,vR 27,vI 11 0,vI 0 0,vR 34,vI 13 0,vI 0 0,vR 41,vI 16 0,vI 0 0,vR 48,vI 18 0,vI 0 0,vR 61,vI 20 0,vI 0 0,vR 73,vI 23 0,vI 0 0,vR 85,vI 28 0,vI 0 0,vR 92,vI 30 0,vI 0 0,vR 99,vI 32 0,vI 0 0,vR 104,vI 38 0,vI 0 0,vR 111,vI 41 0,vI 0 0,vR 118,vI 44 0,vI 0 0,vR 125,vI 52 0,vI 0 0,vR 132,vI 54 0,vI 0 0,vR 139,vI 56 0,vI 0 0,vR 144,vI 61 0,vI 0 0,vR 149,vI 68 0,vI 0 0,vR 154,vI 73 0,vI 0 0,vR 161,vI 76 0,vI 0 0,vR 168,vI 79 0,vI 0 0,vR 175,vI 81 0,vI 0 0,vR 182,vI 83 0,vI 0 0,vR 189,vI 86 0,vI 0 0,vR 196,vI 89 0,vI 0 0,vR 203,vI 97 0,vI 0 0,vR 210,vI 108 0,vI 0 0,vR 217,vI 111 0,vI 0 0,vR 224,vI 114 0,vI 0 0,vR 231,vI 121 0,vI 0 0,vR 238,vI 125 0,vI 0 0,vR 245,vI 129 0,vI 0 0,vR 250,vI 142 0,vI 0 0,vR 257,vI 144 0,vI 0 0,vR 262,vI 157 0,vI 0 0,vR 267,vI 168 0,vI 0 0,vR 272,vI 173 0,vI 0 0,vR 277,vI 188 0,vI 0 0,vR 284,vI 190 0,vI 0 0,vR 289,vI 209 0,vI 0 0,vR 294,vI 218 0,vI 0 0,vR 299,vI 221 0,vI 0 0,vR 306,vI 231 0,vI 0 0,vR 313,vI 247 0,vI 0 0,vR 318,vI 259 0,vI 0 0,vR 325,vI 271 0,vI 0 0,vR 332,vI 282 0,vI 0 0,vR 339] }
noncomputable def K25.x13 (P:Params):Obj:={ cls:=Value.type "code", data:=Data.fields #[vS "<module>" 182,vS "<module>" 183,vS "/claim/cut.py" 184,vI 1 0,vI 0 0,vI 0 0,vI 0 0,vI 0 0,vR 11,Value.bool false,vI 181 0,vR 12,vN,vN,vN,vN,vI 185 0,vI 1 0,vS "/claim/cut.py" 186] }
noncomputable def K25.x14 (P:Params):Obj:={ cls:=Value.type "frame", slots:=#[some (vR 13),some (vR 3),some (vR 3),none,some (vS "__main__" 164),none,some (vR 0)] }
noncomputable def K25.x19 (P:Params):Obj:=W.Fast.tw18404254997151769195 P
noncomputable def K25.x26 (P:Params):Obj:=W.Fast.tw1240266471137705889 P
noncomputable def K25.x33 (P:Params):Obj:=W.Fast.tw7133994743416662941 P
noncomputable def K25.x40 (P:Params):Obj:=W.Fast.tw8683218607105194314 P
noncomputable def K25.x44 (P:Params):Obj:={ cls:=Value.type "builtin_function_or_method", data:=Data.fields #[Value.builtin "type.__prepare__", Value.type "type"] }
noncomputable def K25.x45 (P:Params):Obj:={ cls:=Value.type "dict", data:=Data.dict #[hE P "__module__" 230 (vS "turnery.errors" 221),hE P "__qualname__" 232 (vS "TurnError" 231),hE P "__firstlineno__" 234 (vI 16 233),hE P "__static_attributes__" 235 (vR 50)] 4 }
noncomputable def K25.x46 (P:Params):Obj:={ cls:=Value.type "tuple", data:=Data.seq #[] }
noncomputable def K25.x48 (P:Params):Obj:={ cls:=Value.type "code", data:=Data.fields #[vS "TurnError" 225,vS "TurnError" 226,vS "/claim/cut.py" 227,vI 16 0,vI 0 0,vI 0 0,vI 0 0,vI 0 0,vR 46,Value.bool false,vI 181 0,vR 47,vN,vN,vN,vN,vI 228 0,vI 16 0,vS "/claim/cut.py" 229] }
noncomputable def K25.x49 (P:Params):Obj:={ cls:=Value.type "frame", slots:=#[some (vR 48),some (vR 3),some (vR 45),none,some (vS "turnery.errors" 221),none,some (vR 0)] }
noncomputable def K25.x54 (P:Params):Obj:={ cls:=Value.type "super", data:=Data.fields #[vR 52,vR 52,vR 52] }
noncomputable def K25.x55 (P:Params):Obj:={ cls:=Value.type "builtin_function_or_method", data:=Data.fields #[Value.builtin "object.__init_subclass__", vR 52] }
noncomputable def K25.x57 (P:Params):Obj:={ cls:=Value.type "builtin_function_or_method", data:=Data.fields #[Value.builtin "type.__prepare__", Value.type "type"] }
noncomputable def K25.x58 (P:Params):Obj:={ cls:=Value.type "dict", data:=Data.dict #[hE P "__module__" 248 (vS "turnery.errors" 221),hE P "__qualname__" 250 (vS "NoTree" 249),hE P "__firstlineno__" 252 (vI 18 251),hE P "__static_attributes__" 253 (vR 63)] 4 }
noncomputable def K25.x59 (P:Params):Obj:={ cls:=Value.type "tuple", data:=Data.seq #[] }
noncomputable def K25.x61 (P:Params):Obj:={ cls:=Value.type "code", data:=Data.fields #[vS "NoTree" 243,vS "NoTree" 244,vS "/claim/cut.py" 245,vI 18 0,vI 0 0,vI 0 0,vI 0 0,vI 0 0,vR 59,Value.bool false,vI 181 0,vR 60,vN,vN,vN,vN,vI 246 0,vI 18 0,vS "/claim/cut.py" 247] }
noncomputable def K25.x62 (P:Params):Obj:={ cls:=Value.type "frame", slots:=#[some (vR 61),some (vR 3),some (vR 58),none,some (vS "turnery.errors" 221),none,some (vR 0)] }
noncomputable def K25.x66 (P:Params):Obj:={ cls:=Value.type "super", data:=Data.fields #[vR 65,vR 65,vR 65] }
noncomputable def K25.x67 (P:Params):Obj:={ cls:=Value.type "builtin_function_or_method", data:=Data.fields #[Value.builtin "object.__init_subclass__", vR 65] }
noncomputable def K25.x69 (P:Params):Obj:={ cls:=Value.type "builtin_function_or_method", data:=Data.fields #[Value.builtin "type.__prepare__", Value.type "type"] }
noncomputable def K25.x70 (P:Params):Obj:={ cls:=Value.type "dict", data:=Data.dict #[hE P "__module__" 264 (vS "turnery.errors" 221),hE P "__qualname__" 266 (vS "TooGreat" 265),hE P "__firstlineno__" 268 (vI 20 267),hE P "__static_attributes__" 269 (vR 75)] 4 }
noncomputable def K25.x71 (P:Params):Obj:={ cls:=Value.type "tuple", data:=Data.seq #[] }
noncomputable def K25.x73 (P:Params):Obj:={ cls:=Value.type "code", data:=Data.fields #[vS "TooGreat" 259,vS "TooGreat" 260,vS "/claim/cut.py" 261,vI 20 0,vI 0 0,vI 0 0,vI 0 0,vI 0 0,vR 71,Value.bool false,vI 181 0,vR 72,vN,vN,vN,vN,vI 262 0,vI 20 0,vS "/claim/cut.py" 263] }
noncomputable def K25.x74 (P:Params):Obj:={ cls:=Value.type "frame", slots:=#[some (vR 73),some (vR 3),some (vR 70),none,some (vS "turnery.errors" 221),none,some (vR 0)] }
noncomputable def K25.x78 (P:Params):Obj:={ cls:=Value.type "super", data:=Data.fields #[vR 77,vR 77,vR 77] }
noncomputable def K25.x79 (P:Params):Obj:={ cls:=Value.type "builtin_function_or_method", data:=Data.fields #[Value.builtin "object.__init_subclass__", vR 77] }
noncomputable def K25.x84 (P:Params):Obj:=W.Fast.tw16538019312649955424 P
noncomputable def K25.x91 (P:Params):Obj:=W.Fast.tw14729167402279058861 P
noncomputable def K25.x98 (P:Params):Obj:=W.Fast.tw3996069209960570038 P
noncomputable def K25.x103 (P:Params):Obj:=W.Fast.tw1179068294051045651 P
noncomputable def K25.x110 (P:Params):Obj:=W.Fast.tw4783931608007925915 P
noncomputable def K25.x117 (P:Params):Obj:=W.Fast.tw6351004733232055703 P
noncomputable def K25.x124 (P:Params):Obj:=W.Fast.tw2741869007718580978 P
noncomputable def K25.x131 (P:Params):Obj:=W.Fast.tw4898747187698938432 P
noncomputable def K25.x138 (P:Params):Obj:=W.Fast.tw12875713985387709169 P
noncomputable def K25.x143 (P:Params):Obj:=W.Fast.tw6220669953814150106 P
noncomputable def K25.x148 (P:Params):Obj:=W.Fast.tw1730795401302472389 P
noncomputable def K25.x153 (P:Params):Obj:=W.Fast.tw14110800737932452187 P
noncomputable def K25.x160 (P:Params):Obj:=W.Fast.tw7122254781043350380 P
noncomputable def K25.x167 (P:Params):Obj:=W.Fast.tw8728150339991971043 P
noncomputable def K25.x174 (P:Params):Obj:=W.Fast.tw10861813825665866174 P
noncomputable def K25.x181 (P:Params):Obj:=W.Fast.tw12383888945323196217 P
noncomputable def K25.x188 (P:Params):Obj:=W.Fast.tw250797987910843487 P
noncomputable def K25.x195 (P:Params):Obj:=W.Fast.tw4466956002634869607 P
noncomputable def K25.x202 (P:Params):Obj:=W.Fast.tw3729090250486827758 P
noncomputable def K25.x209 (P:Params):Obj:=W.Fast.tw14345725903016897870 P
noncomputable def K25.x216 (P:Params):Obj:=W.Fast.tw4935864537004758781 P
noncomputable def K25.x223 (P:Params):Obj:=W.Fast.tw11478075415901163591 P
noncomputable def K25.x230 (P:Params):Obj:=W.Fast.tw13651033448073330444 P
noncomputable def K25.x237 (P:Params):Obj:=W.Fast.tw5785556091681329696 P
noncomputable def K25.x244 (P:Params):Obj:=W.Fast.tw3762939569710041749 P
noncomputable def K25.x249 (P:Params):Obj:=W.Fast.tw5247740261124905284 P
noncomputable def K25.x256 (P:Params):Obj:=W.Fast.tw4915600990428904275 P
noncomputable def K25.x261 (P:Params):Obj:=W.Fast.tw17554449420323500391 P
noncomputable def K25.x266 (P:Params):Obj:=W.Fast.tw10126876296007432 P
noncomputable def K25.x271 (P:Params):Obj:=W.Fast.tw11091543806560562919 P
noncomputable def K25.x276 (P:Params):Obj:=W.Fast.tw8298470270931944096 P
noncomputable def K25.x283 (P:Params):Obj:=W.Fast.tw346534115496024026 P
noncomputable def K25.x288 (P:Params):Obj:=W.Fast.tw4472931528777996684 P
noncomputable def K25.x293 (P:Params):Obj:=W.Fast.tw14922174294489689319 P
noncomputable def K25.x298 (P:Params):Obj:=W.Fast.tw4213659096251749663 P
noncomputable def K25.x305 (P:Params):Obj:=W.Fast.tw2239668874109159508 P
noncomputable def K25.x312 (P:Params):Obj:=W.Fast.tw1604940521595962079 P
noncomputable def K25.x317 (P:Params):Obj:=W.Fast.tw689696210509558909 P
noncomputable def K25.x324 (P:Params):Obj:=W.Fast.tw3157923430894926439 P
noncomputable def K25.x331 (P:Params):Obj:=W.Fast.tw733963841691959303 P
noncomputable def K25.x338 (P:Params):Obj:=W.Fast.tw14367776862228452970 P
noncomputable def _root_.PySem.W.Fast.tw15361379793043208731:Params→Heap:=fun P=>{ objs:=⟨[W.boot_o_0 P,W.boot_o_1 P,Obj.mk vN none (Data.dict #[]) #[],x3 P,W.boot_o_4 P,W.boot_o_5 P,W.boot_o_6 P,W.boot_o_7 P,W.boot_o_8 P,W.boot_o_9 P,W.boot_o_10 P,x11 P,x12 P,x13 P,x14 P,oT #[],oE,oT #[vS "term" 192],oT #[],x19 P,x20 P,x21 P,oT #[],oE,x24 P,oT #[],x26 P,x27 P,x28 P,oT #[],oE,oT #[vS "term" 208,vS "mark" 209],oT #[],x33 P,x34 P,x35 P,oT #[],oE,oT #[vS "term" 216,vS "mark" 217],oT #[],x40 P,x41 P,x42 P,oT #[Value.type "ValueError"],x44 P,x45 P,x46 P,oE,x48 P,x49 P,oT #[],x51 P,x52 P,x53 P,x54 P,x55 P,oT #[vR 52],x57 P,x58 P,x59 P,oE,x61 P,x62 P,oT #[],x64 P,x65 P,x66 P,x67 P,oT #[vR 52],x69 P,x70 P,x71 P,oE,x73 P,x74 P,oT #[],x76 P,x77 P,x78 P,x79 P,oT #[],oE,oT #[vS "branches" 278,vS "number" 279],oT #[],x84 P,x85 P,x86 P,oT #[],oE,oT #[vS "wood" 288,vS "kind" 289],oT #[],x91 P,x92 P,x93 P,oT #[],oE,x96 P,oT #[],x98 P,x99 P,x100 P,oT #[],oE,x103 P,x104 P,x105 P,oT #[],oE,x108 P,oT #[],x110 P,x111 P,x112 P,oT #[],oE,oT #[vS "wood" 320,vS "tree" 321],oT #[],x117 P,x118 P,x119 P,oT #[],oE,x122 P,oT #[],x124 P,x125 P,x126 P,oT #[],oE,x129 P,oT #[],x131 P,x132 P,x133 P,oT #[],oE,oT #[vS "tree" 355],oT #[],x138 P,x139 P,x140 P,oT #[],oE,x143 P,x144 P,x145 P,oT #[],oE,x148 P,x149 P,x150 P,oT #[],oE,x153 P,x154 P,x155 P,oT #[],oE,oT #[vS "turning" 382,vS "tree" 383],oT #[],x160 P,x161 P,x162 P,oT #[],oE,oT #[vS "turning" 390,vS "tree" 391],oT #[],x167 P,x168 P,x169 P,oT #[],oE,x172 P,oT #[],x174 P,x175 P,x176 P,oT #[],oE,x179 P,oT #[],x181 P,x182 P,x183 P,oT #[],oE,x186 P,oT #[],x188 P,x189 P,x190 P,oT #[],oE,x193 P,oT #[],x195 P,x196 P,x197 P,oT #[],oE,x200 P,oT #[],x202 P,x203 P,x204 P,oT #[],oE,x207 P,oT #[],x209 P,x210 P,x211 P,oT #[],oE,oT #[vS "turning" 466,vS "tree" 467],oT #[],x216 P,x217 P,x218 P,oT #[],oE,x221 P,oT #[],x223 P,x224 P,x225 P,oT #[],oE,x228 P,oT #[],x230 P,x231 P,x232 P,oT #[],oE,x235 P,oT #[],x237 P,x238 P,x239 P,oT #[],oE,x242 P,oT #[],x244 P,x245 P,x246 P,oT #[],oE,x249 P,x250 P,x251 P,oT #[],oE,oT #[vS "_law_cell" 517],oT #[],x256 P,x257 P,x258 P,oT #[],oE,x261 P,x262 P,x263 P,oT #[],oE,x266 P,x267 P,x268 P,oT #[],oE,x271 P,x272 P,x273 P,oT #[],oE,x276 P,x277 P,x278 P,oT #[],oE,x281 P,oT #[],x283 P,x284 P,x285 P,oT #[],oE,x288 P,x289 P,x290 P,oT #[],oE,x293 P,x294 P,x295 P,oT #[],oE,x298 P,x299 P,x300 P,oT #[],oE,x303 P,oT #[],x305 P,x306 P,x307 P,oT #[],oE,x310 P,oT #[],x312 P,x313 P,x314 P,oT #[],oE,x317 P,x318 P,x319 P,oT #[],oE,x322 P,oT #[],x324 P,x325 P,x326 P,oT #[],oE,x329 P,oT #[],x331 P,x332 P,x333 P,oT #[],oE,x336 P,oT #[],x338 P,x339 P,x340 P]⟩ }
theorem _root_.PySem.W.Fast.te15361379793043208731:PySem.W.Fast.tw15361379793043208731=PySem.W.Fast.tw15361379793043208731:=rfl
noncomputable def K25.N:W.BT:=.nil
noncomputable def K25.B (o:Obj) (l r:W.BT):W.BT:=.node o l r
noncomputable def _root_.PySem.W.Fast.tw15438880450824569208:Params→W.BT:=fun P=>B (W.boot_o_0 P) (B (W.boot_o_1 P) (B (x3 P) (B (W.boot_o_7 P) (B (39:) (B (oT #[vS "term" 208,vS "mark" 209]) (B (39:) (B (39:) (5:) N) (B (39:) (B (x319 P) N N) N)) (B (oE) (B (39:) (35:) N) (B (x223 P) N N))) (B (oE) (B (x79 P) (B (x143 P) (B (x271 P) N N) N) (B (x207 P) (35:) N)) (B (x111 P) (B (x175 P) (B (x303 P) N N) N) (B (x239 P) N N)))) (B (oE) (B (39:) (B (x71 P) (B (oE) (B (x263 P) N N) N) (B (oE) (5:) N)) (B (x103 P) (B (x167 P) (B (x295 P) N N) N) (B (x231 P) N N))) (B (x55 P) (B (39:) (B (39:) (5:) N) (5:)) (B (x119 P) (B (x183 P) (5:) N) (5:))))) (B (x11 P) (B (x19 P) (B (x35 P) (B (x67 P) (B (x131 P) (5:) N) (B (x195 P) (5:) N)) (B (x99 P) (B (39:) (5:) N) (35:))) (B (x51 P) (B (39:) (B (oE) (35:) N) (B (x211 P) (B (x339 P) N N) N)) (B (oT #[vS "wood" 320,vS "tree" 321]) (B (x179 P) (B (x307 P) N N) N) (5:)))) (B (x27 P) (B (oT #[Value.type "ValueError"]) (B (39:) (B (x139 P) (B (x267 P) N N) N) (B (x203 P) (B (x331 P) N N) N)) (B (oE) (B (oE) (B (x299 P) N N) N) (B (x235 P) N N))) (B (x59 P) (B (x91 P) (B (x155 P) (B (x283 P) N N) N) (5:)) (B (39:) (B (39:) (5:) N) (B (x251 P) N N)))))) (B (W.boot_o_5 P) (B (W.boot_o_9 P) (B (oT #[vS "term" 192]) (B (x33 P) (B (x65 P) (B (x129 P) (B (x257 P) N N) N) (B (x193 P) (35:) N)) (B (39:) (B (x161 P) (B (x289 P) N N) N) (B (x225 P) N N))) (B (x49 P) (B (oE) (B (x145 P) (B (x273 P) N N) N) (B (x209 P) (5:) N)) (B (39:) (B (39:) (B (x305 P) N N) N) (35:)))) (B (39:) (B (x41 P) (B (x73 P) (B (39:) (35:) N) (B (39:) (B (x329 P) N N) N)) (B (x105 P) (B (x169 P) (35:) N) (5:))) (B (x57 P) (B (oT #[vS "wood" 288,vS "kind" 289]) (B (x153 P) (B (x281 P) N N) N) (B (x217 P) N N)) (B (oE) (B (oE) (B (x313 P) N N) N) (B (x249 P) N N))))) (B (x13 P) (B (x21 P) (B (oE) (B (x69 P) (B (x133 P) (B (x261 P) N N) N) (B (x197 P) (B (x325 P) N N) N)) (B (39:) (B (oT #[vS "turning" 390,vS "tree" 391]) (B (x293 P) N N) N) (5:))) (B (x53 P) (B (x85 P) (B (x149 P) (B (x277 P) N N) N) (35:)) (B (x117 P) (B (x181 P) (35:) N) (B (x245 P) N N)))) (B (39:) (B (x45 P) (B (x77 P) (B (39:) (5:) N) (B (39:) (B (x333 P) N N) N)) (B (39:) (B (39:) (5:) N) (B (x237 P) N N))) (B (x61 P) (B (x93 P) (B (oE) (B (x285 P) N N) N) (B (x221 P) N N)) (B (x125 P) (B (x189 P) (B (x317 P) N N) N) (35:))))))) (B (Obj.mk vN none (Data.dict #[]) #[]) (B (W.boot_o_4 P) (B (W.boot_o_8 P) (B (oE) (B (39:) (B (x64 P) (B (oE) (B (x256 P) N N) N) (B (oE) (5:) N)) (B (x96 P) (B (x160 P) (B (x288 P) N N) N) (B (x224 P) N N))) (B (x48 P) (B (39:) (B (x144 P) (B (x272 P) N N) N) (B (39:) (B (x336 P) N N) N)) (B (x112 P) (B (x176 P) (5:) N) (5:)))) (B (x24 P) (B (x40 P) (B (oE) (B (oT #[vS "tree" 355]) (5:) N) (B (x200 P) (35:) N)) (B (x104 P) (B (x168 P) (5:) N) (B (x232 P) N N))) (B (oT #[vR 52]) (B (oE) (B (oE) (35:) N) (B (x216 P) N N)) (B (39:) (B (39:) (B (x312 P) N N) N) (35:))))) (B (x12 P) (B (x20 P) (B (39:) (B (oT #[vR 52]) (B (x132 P) (35:) N) (B (x196 P) (B (x324 P) N N) N)) (B (x100 P) (B (oE) (35:) N) (B (x228 P) N N))) (B (x52 P) (B (x84 P) (B (x148 P) (B (x276 P) N N) N) (B (39:) (B (x340 P) N N) N)) (B (39:) (B (39:) (5:) N) (B (x244 P) N N)))) (B (x28 P) (B (x44 P) (B (x76 P) (B (x140 P) (B (x268 P) N N) N) (B (x204 P) (B (x332 P) N N) N)) (B (x108 P) (B (x172 P) (B (x300 P) N N) N) (5:))) (B (oE) (B (x92 P) (B (39:) (B (x284 P) N N) N) (35:)) (B (x124 P) (B (x188 P) (35:) N) (5:)))))) (B (W.boot_o_6 P) (B (W.boot_o_10 P) (B (39:) (B (x34 P) (B (x66 P) (B (39:) (B (x258 P) N N) N) (B (39:) (B (x322 P) N N) N)) (B (x98 P) (B (x162 P) (B (x290 P) N N) N) (5:))) (B (39:) (B (oT #[vS "branches" 278,vS "number" 279]) (B (39:) (5:) N) (B (x210 P) (B (x338 P) N N) N)) (B (oE) (B (oE) (B (x306 P) N N) N) (B (x242 P) N N)))) (B (x26 P) (B (x42 P) (B (x74 P) (B (x138 P) (B (x266 P) N N) N) (B (x202 P) (5:) N)) (B (39:) (B (39:) (B (x298 P) N N) N) (35:))) (B (x58 P) (B (39:) (B (x154 P) (5:) N) (B (x218 P) N N)) (B (x122 P) (B (x186 P) (B (x314 P) N N) N) (B (x250 P) N N))))) (B (x14 P) (B (39:) (B (oT #[vS "term" 216,vS "mark" 217]) (B (x70 P) (B (39:) (B (x262 P) N N) N) (B (39:) (B (x326 P) N N) N)) (B (oE) (B (39:) (B (x294 P) N N) N) (B (x230 P) N N))) (B (x54 P) (B (x86 P) (B (x150 P) (B (x278 P) N N) N) (B (oT #[vS "turning" 466,vS "tree" 467]) N N)) (B (x118 P) (B (x182 P) (B (x310 P) N N) N) (B (x246 P) N N)))) (B (oE) (B (x46 P) (B (x78 P) (B (oE) (35:) N) (B (oE) (5:) N)) (B (x110 P) (B (x174 P) (35:) N) (B (x238 P) N N))) (B (x62 P) (B (39:) (B (oT #[vS "turning" 382,vS "tree" 383]) (5:) N) (5:)) (B (x126 P) (B (x190 P) (B (x318 P) N N) N) (B (oT #[vS "_law_cell" 517]) N N)))))))
theorem _root_.PySem.W.Fast.te15438880450824569208:PySem.W.Fast.tw15438880450824569208=PySem.W.Fast.tw15438880450824569208:=rfl
noncomputable def K25.y3_314 (P:Params):Obj:={ cls:=Value.type "dict", data:=Data.dict #[hE P "__name__" 165 (3:),hE P "__doc__" 166 (vN),hE P "__package__" 167 (vN),hE P "__loader__" 168 (Value.builtin "__main__.__loader__#opaque"),hE P "__spec__" 169 (vN),hE P "__annotations__" 170 (vR 6),hE P "__builtins__" 171 (vR 4),hE P "__file__" 173 (vS "/claim/cut.py" 172),hE P "__cached__" 174 (vN),hE P "is_call" 195 (vR 21),hE P "calls_of" 204 (vR 28),hE P "mark_put" 212 (vR 35),hE P "put_head" 220 (vR 42),hE P "TurnError" 240 (vR 52),hE P "NoTree" 256 (vR 65),hE P "TooGreat" 272 (vR 77),hE P "has_number" 282 (vR 86),hE P "rows_of" 292 (vR 93),hE P "row_of" 301 (vR 100),hE P "is_of" 307 (vR 105),hE P "need_of" 316 (vR 112),hE P "need_in" 324 (vR 119),hE P "rule_of" 339 (vR 126),hE P "outcome" 351 (vR 133),hE P "above" 358 (vR 140),hE P "reckoned" 364 (vR 145),hE P "called_below" 370 (vR 150),hE P "filled" 376 (vR 155),hE P "many" 386 (vR 162),hE P "tall" 394 (vR 169),hE P "many_by" 403 (vR 176),hE P "tall_by" 412 (vR 183),hE P "seen" 421 (vR 190),hE P "seen_in" 431 (vR 197),hE P "seen_by" 444 (vR 204),hE P "first_put" 456 (vR 211),hE P "MOST_NAMES" 460 (vI 400 459),hE P "MOST_LEVELS" 462 (vI 60 461),hE P "turned" 470 (vR 218),hE P "turned_in" 479 (vR 225),hE P "turned_by" 488 (vR 232),hE P "_law_cell_at" 498 (vR 239),hE P "_law_mixed" 507 (vR 246),hE P "_law_names" 513 (vR 251),hE P "_law_great" 520 (vR 258),hE P "_law_wood" 526 (vR 263),hE P "_law_term" 532 (vR 268)] 47 }
noncomputable def K25.y12_314 (P:Params):Obj:={ cls:=vN,data:=Data.fields #[vI 2 0,vI 0 0,vR 20,vI 4 0,vI 0 0,vR 27,vI 11 0,vI 0 0,vR 34,vI 13 0,vI 0 0,vR 41,vI 16 0,vI 0 0,vR 48,vI 18 0,vI 0 0,vR 61,vI 20 0,vI 0 0,vR 73,vI 23 0,vI 0 0,vR 85,vI 28 0,vI 0 0,vR 92,vI 30 0,vI 0 0,vR 99,vI 32 0,vI 0 0,vR 104,vI 38 0,vI 0 0,vR 111,vI 41 0,vI 0 0,vR 118,vI 44 0,vI 0 0,vR 125,vI 52 0,vI 0 0,vR 132,vI 54 0,vI 0 0,vR 139,vI 56 0,vI 0 0,vR 144,vI 61 0,vI 0 0,vR 149,vI 68 0,vI 0 0,vR 154,vI 73 0,vI 0 0,vR 161,vI 76 0,vI 0 0,vR 168,vI 79 0,vI 0 0,vR 175,vI 81 0,vI 0 0,vR 182,vI 83 0,vI 0 0,vR 189,vI 86 0,vI 0 0,vR 196,vI 89 0,vI 0 0,vR 203,vI 97 0,vI 0 0,vR 210,vI 108 0,vI 0 0,vR 217,vI 111 0,vI 0 0,vR 224,vI 114 0,vI 0 0,vR 231,vI 121 0,vI 0 0,vR 238,vI 125 0,vI 0 0,vR 245,vI 129 0,vI 0 0,vR 250,vI 142 0,vI 0 0,vR 257,vI 144 0,vI 0 0,vR 262,vI 157 0,vI 0 0,vR 267] }
noncomputable def _root_.PySem.W.Fast.tw6701948963930300928:Params→W.BT:=fun P=>B (W.boot_o_0 P) (B (W.boot_o_1 P) (B (y3_314 P) (B (W.boot_o_7 P) (B (39:) (B (oT #[vS "term" 208,vS "mark" 209]) (B (39:) (B (39:) (5:) N) (5:)) (B (oE) (5:) (B (x223 P) N N))) (B (oE) (B (x79 P) (B (x143 P) N N) (B (x207 P) N N)) (B (x111 P) (B (x175 P) N N) (B (x239 P) N N)))) (B (oE) (B (39:) (B (x71 P) (B (oE) (B (x263 P) N N) N) (35:)) (B (x103 P) (B (x167 P) N N) (B (x231 P) N N))) (B (x55 P) (B (39:) (5:) (5:)) (B (x119 P) (B (x183 P) N N) (5:))))) (B (x11 P) (B (x19 P) (B (x35 P) (B (x67 P) (B (x131 P) (5:) N) (B (x195 P) N N)) (B (x99 P) (5:) (35:))) (B (x51 P) (B (39:) (35:) (B (x211 P) N N)) (B (oT #[vS "wood" 320,vS "tree" 321]) (B (x179 P) N N) (5:)))) (B (x27 P) (B (oT #[Value.type "ValueError"]) (B (39:) (B (x139 P) (B (x267 P) N N) N) (B (x203 P) N N)) (B (oE) (35:) (B (x235 P) N N))) (B (x59 P) (B (x91 P) (B (x155 P) N N) (5:)) (B (39:) (5:) (B (x251 P) N N)))))) (B (W.boot_o_5 P) (B (W.boot_o_9 P) (B (oT #[vS "term" 192]) (B (x33 P) (B (x65 P) (B (x129 P) (B (x257 P) N N) N) (B (x193 P) N N)) (B (39:) (B (x161 P) N N) (B (x225 P) N N))) (B (x49 P) (B (oE) (B (x145 P) N N) (B (x209 P) N N)) (B (39:) (5:) (35:)))) (B (39:) (B (x41 P) (B (x73 P) (B (39:) (35:) N) (5:)) (B (x105 P) (B (x169 P) N N) (5:))) (B (x57 P) (B (oT #[vS "wood" 288,vS "kind" 289]) (B (x153 P) N N) (B (x217 P) N N)) (B (oE) (35:) (B (x249 P) N N))))) (B (x13 P) (B (x21 P) (B (oE) (B (x69 P) (B (x133 P) (B (x261 P) N N) N) (B (x197 P) N N)) (B (39:) (B (oT #[vS "turning" 390,vS "tree" 391]) N N) (5:))) (B (x53 P) (B (x85 P) (B (x149 P) N N) (35:)) (B (x117 P) (B (x181 P) N N) (B (x245 P) N N)))) (B (39:) (B (x45 P) (B (x77 P) (5:) (5:)) (B (39:) (5:) (B (x237 P) N N))) (B (x61 P) (B (x93 P) (35:) (B (x221 P) N N)) (B (x125 P) (B (x189 P) N N) (35:))))))) (B (Obj.mk vN none (Data.dict #[]) #[]) (B (W.boot_o_4 P) (B (W.boot_o_8 P) (B (oE) (B (39:) (B (x64 P) (B (oE) (B (x256 P) N N) N) (35:)) (B (x96 P) (B (x160 P) N N) (B (x224 P) N N))) (B (x48 P) (B (39:) (B (x144 P) N N) (5:)) (B (x112 P) (B (x176 P) N N) (5:)))) (B (x24 P) (B (x40 P) (B (oE) (B (oT #[vS "tree" 355]) (5:) N) (B (x200 P) N N)) (B (x104 P) (B (x168 P) N N) (B (x232 P) N N))) (B (oT #[vR 52]) (B (oE) (35:) (B (x216 P) N N)) (B (39:) (5:) (35:))))) (B (y12_314 P) (B (x20 P) (B (39:) (B (oT #[vR 52]) (B (x132 P) (35:) N) (B (x196 P) N N)) (B (x100 P) (35:) (B (x228 P) N N))) (B (x52 P) (B (x84 P) (B (x148 P) N N) (5:)) (B (39:) (5:) (B (x244 P) N N)))) (B (x28 P) (B (x44 P) (B (x76 P) (B (x140 P) (B (x268 P) N N) N) (B (x204 P) N N)) (B (x108 P) (B (x172 P) N N) (5:))) (B (oE) (B (x92 P) (5:) (35:)) (B (x124 P) (B (x188 P) N N) (5:)))))) (B (W.boot_o_6 P) (B (W.boot_o_10 P) (B (39:) (B (x34 P) (B (x66 P) (B (39:) (B (x258 P) N N) N) (5:)) (B (x98 P) (B (x162 P) N N) (5:))) (B (39:) (B (oT #[vS "branches" 278,vS "number" 279]) (5:) (B (x210 P) N N)) (B (oE) (35:) (B (x242 P) N N)))) (B (x26 P) (B (x42 P) (B (x74 P) (B (x138 P) (B (x266 P) N N) N) (B (x202 P) N N)) (B (39:) (5:) (35:))) (B (x58 P) (B (39:) (B (x154 P) N N) (B (x218 P) N N)) (B (x122 P) (B (x186 P) N N) (B (x250 P) N N))))) (B (x14 P) (B (39:) (B (oT #[vS "term" 216,vS "mark" 217]) (B (x70 P) (B (39:) (B (x262 P) N N) N) (5:)) (B (oE) (5:) (B (x230 P) N N))) (B (x54 P) (B (x86 P) (B (x150 P) N N) (B (oT #[vS "turning" 466,vS "tree" 467]) N N)) (B (x118 P) (B (x182 P) N N) (B (x246 P) N N)))) (B (oE) (B (x46 P) (B (x78 P) (35:) (35:)) (B (x110 P) (B (x174 P) N N) (B (x238 P) N N))) (B (x62 P) (B (39:) (B (oT #[vS "turning" 382,vS "tree" 383]) N N) (5:)) (B (x126 P) (B (x190 P) N N) (B (oT #[vS "_law_cell" 517]) N N)))))))
theorem _root_.PySem.W.Fast.te6701948963930300928:PySem.W.Fast.tw6701948963930300928=PySem.W.Fast.tw6701948963930300928:=rfl
noncomputable def K25.y3_234 (P:Params):Obj:={ cls:=Value.type "dict", data:=Data.dict #[hE P "__name__" 165 (34:),hE P "__doc__" 166 (vN),hE P "__package__" 167 (vN),hE P "__loader__" 168 (Value.builtin "__main__.__loader__#opaque"),hE P "__spec__" 169 (vN),hE P "__annotations__" 170 (vR 6),hE P "__builtins__" 171 (vR 4),hE P "__file__" 173 (vS "/claim/cut.py" 172),hE P "__cached__" 174 (vN),hE P "is_call" 195 (vR 21),hE P "calls_of" 204 (vR 28),hE P "mark_put" 212 (vR 35),hE P "put_head" 220 (vR 42),hE P "TurnError" 240 (vR 52),hE P "NoTree" 256 (vR 65),hE P "TooGreat" 272 (vR 77),hE P "has_number" 282 (vR 86),hE P "rows_of" 292 (vR 93),hE P "row_of" 301 (vR 100),hE P "is_of" 307 (vR 105),hE P "need_of" 316 (vR 112),hE P "need_in" 324 (vR 119),hE P "rule_of" 339 (vR 126),hE P "outcome" 351 (vR 133),hE P "above" 358 (vR 140),hE P "reckoned" 364 (vR 145),hE P "called_below" 370 (vR 150),hE P "filled" 376 (vR 155),hE P "many" 386 (vR 162),hE P "tall" 394 (vR 169),hE P "many_by" 403 (vR 176),hE P "tall_by" 412 (vR 183),hE P "seen" 421 (vR 190)] 33 }
noncomputable def K25.y12_234 (P:Params):Obj:={ cls:=vN,data:=Data.fields #[vI 2 0,vI 0 0,vR 20,vI 4 0,vI 0 0,vR 27,vI 11 0,vI 0 0,vR 34,vI 13 0,vI 0 0,vR 41,vI 16 0,vI 0 0,vR 48,vI 18 0,vI 0 0,vR 61,vI 20 0,vI 0 0,vR 73,vI 23 0,vI 0 0,vR 85,vI 28 0,vI 0 0,vR 92,vI 30 0,vI 0 0,vR 99,vI 32 0,vI 0 0,vR 104,vI 38 0,vI 0 0,vR 111,vI 41 0,vI 0 0,vR 118,vI 44 0,vI 0 0,vR 125,vI 52 0,vI 0 0,vR 132,vI 54 0,vI 0 0,vR 139,vI 56 0,vI 0 0,vR 144,vI 61 0,vI 0 0,vR 149,vI 68 0,vI 0 0,vR 154,vI 73 0,vI 0 0,vR 161,vI 76 0,vI 0 0,vR 168,vI 79 0,vI 0 0,vR 175,vI 81 0,vI 0 0,vR 182,vI 83 0,vI 0 0,vR 189] }
noncomputable def _root_.PySem.W.Fast.tw11999852550499117242:Params→W.BT:=fun P=>B (W.boot_o_0 P) (B (W.boot_o_1 P) (B (y3_234 P) (B (W.boot_o_7 P) (B (39:) (B (oT #[vS "term" 208,vS "mark" 209]) (B (39:) (5:) N) (B (oE) (5:) N)) (B (oE) (B (x79 P) (B (x143 P) N N) N) (B (x111 P) (B (x175 P) N N) N))) (B (oE) (B (39:) (B (x71 P) (35:) N) (B (x103 P) (B (x167 P) N N) N)) (B (x55 P) (B (39:) (5:) N) (B (x119 P) (B (x183 P) N N) N)))) (B (x11 P) (B (x19 P) (B (x35 P) (B (x67 P) (B (x131 P) N N) N) (B (x99 P) (5:) N)) (B (x51 P) (B (39:) (35:) N) (B (oT #[vS "wood" 320,vS "tree" 321]) (B (x179 P) N N) N))) (B (x27 P) (B (oT #[Value.type "ValueError"]) (B (39:) (B (x139 P) N N) N) (B (oE) (35:) N)) (B (x59 P) (B (x91 P) (B (x155 P) N N) N) (B (39:) (5:) N))))) (B (W.boot_o_5 P) (B (W.boot_o_9 P) (B (oT #[vS "term" 192]) (B (x33 P) (B (x65 P) (B (x129 P) N N) N) (B (39:) (B (x161 P) N N) N)) (B (x49 P) (B (oE) (B (x145 P) N N) N) (B (39:) (5:) N))) (B (39:) (B (x41 P) (B (x73 P) (5:) N) (B (x105 P) (B (x169 P) N N) N)) (B (x57 P) (B (oT #[vS "wood" 288,vS "kind" 289]) (B (x153 P) N N) N) (B (oE) (35:) N)))) (B (x13 P) (B (x21 P) (B (oE) (B (x69 P) (B (x133 P) N N) N) (B (39:) (B (oT #[vS "turning" 390,vS "tree" 391]) N N) N)) (B (x53 P) (B (x85 P) (B (x149 P) N N) N) (B (x117 P) (B (x181 P) N N) N))) (B (39:) (B (x45 P) (B (x77 P) (5:) N) (B (39:) (5:) N)) (B (x61 P) (B (x93 P) (35:) N) (B (x125 P) (B (x189 P) N N) N)))))) (B (Obj.mk vN none (Data.dict #[]) #[]) (B (W.boot_o_4 P) (B (W.boot_o_8 P) (B (oE) (B (39:) (B (x64 P) (35:) N) (B (x96 P) (B (x160 P) N N) N)) (B (x48 P) (B (39:) (B (x144 P) N N) N) (B (x112 P) (B (x176 P) N N) N))) (B (x24 P) (B (x40 P) (B (oE) (B (oT #[vS "tree" 355]) N N) N) (B (x104 P) (B (x168 P) N N) N)) (B (oT #[vR 52]) (B (oE) (35:) N) (B (39:) (5:) N)))) (B (y12_234 P) (B (x20 P) (B (39:) (B (oT #[vR 52]) (B (x132 P) N N) N) (B (x100 P) (35:) N)) (B (x52 P) (B (x84 P) (B (x148 P) N N) N) (B (39:) (5:) N))) (B (x28 P) (B (x44 P) (B (x76 P) (B (x140 P) N N) N) (B (x108 P) (B (x172 P) N N) N)) (B (oE) (B (x92 P) (5:) N) (B (x124 P) (B (x188 P) N N) N))))) (B (W.boot_o_6 P) (B (W.boot_o_10 P) (B (39:) (B (x34 P) (B (x66 P) (5:) N) (B (x98 P) (B (x162 P) N N) N)) (B (39:) (B (oT #[vS "branches" 278,vS "number" 279]) (5:) N) (B (oE) (35:) N))) (B (x26 P) (B (x42 P) (B (x74 P) (B (x138 P) N N) N) (B (39:) (5:) N)) (B (x58 P) (B (39:) (B (x154 P) N N) N) (B (x122 P) (B (x186 P) N N) N)))) (B (x14 P) (B (39:) (B (oT #[vS "term" 216,vS "mark" 217]) (B (x70 P) (5:) N) (B (oE) (5:) N)) (B (x54 P) (B (x86 P) (B (x150 P) N N) N) (B (x118 P) (B (x182 P) N N) N))) (B (oE) (B (x46 P) (B (x78 P) (35:) N) (B (x110 P) (B (x174 P) N N) N)) (B (x62 P) (B (39:) (B (oT #[vS "turning" 382,vS "tree" 383]) N N) N) (B (x126 P) (B (x190 P) N N) N))))))
theorem _root_.PySem.W.Fast.te11999852550499117242:PySem.W.Fast.tw11999852550499117242=PySem.W.Fast.tw11999852550499117242:=rfl
end
open PySem PySem.W PyProof.Rows
set_option maxRecDepth 100000 in
set_option maxHeartbeats 0 in
theorem PySem.Challenge.cw_turnery_k25_trees_of_no_kind_holds : PySem.Challenge.rw_turnery_k25_trees_of_no_kind.Holds := by
 w_on;o_law;k_head;(case hw=>w_witness2)
 k_fill
 refine K25.walk (c1:=175) (T1:=171) (c2:=182) (T2:=178) (c3:=231) (T3:=227) (l:=PySem.Challenge.rw_turnery_k25_trees_of_no_kind) rfl rfl (fun w h Y=>PySem.W.km_in_of Y) ?tb1 ?tb2 ?tb3 (27:) (27:) (27:) ?F
 case tb1 =>
  intro w
  refine' L2.TabAt.mk ⟨_,?a⟩ ?b ?c ?d;(case a=>exact rfl);(case b=>kernel_rfl);(case c=>kernel_rfl);(case d=>kernel_rfl)
 case tb2 =>
  intro w
  refine' L2.TabAt.mk ⟨_,?a⟩ ?b ?c ?d;(case a=>exact rfl);(case b=>kernel_rfl);(case c=>kernel_rfl);(case d=>kernel_rfl)
 case tb3 =>
  intro w
  refine' L2.TabAt.mk ⟨_,?a⟩ ?b ?c ?d;(case a=>exact rfl);(case b=>kernel_rfl);(case c=>kernel_rfl);(case d=>kernel_rfl)
 case F =>
  intro w mg fa h KX G hmg
  refine' K25.all_mk (c1:=175) (T1:=171) (c2:=182) (T2:=178) (c3:=231) (T3:=227) KX G hmg ?d1 ?d2 ?d3 ?d4 ?d5 ?d6 ?d7 ?d8 ?d9 ?d10 ?d11 ?d12 ?d13 ?d14 ?d15 ?d16 ?d17 ?d18 ?d19 ?d20 ?d21 ?d22 ?d23 ?d24 ?d25 ?d26 ?d27 ?d28 ?d29 ?d30 ?d31 ?d32 ?d33 ?d34 ?d35 ?d36 ?d37 ?d38 ?d39 ?d40 ?d41 ?d42 ?d43 ?d44 ?d45 ?z1 ?z2 ?z3 ?z4 ?z5 ?z6 ?z7 ?z8 ?z9 ?z10 ?z11 ?z12 ?z13 ?z14 ?z15 ?y1 ?ht1 ?hh1 ?ht2 ?hh2 ?ht3 ?hh3 (27:) (27:) (27:) ?gN ?gG ?qN ?qG ?v1 ?v2 ?v3 ?gT ?i1 ?i2 ?i3 ?e1 ?e2 ?e3 ?e4 ?e5 ?g4 ?g6
  (case ht1=>kernel_rfl);(case hh1=>kernel_rfl)
  (case ht2=>kernel_rfl);(case hh2=>kernel_rfl)
  (case ht3=>kernel_rfl);(case hh3=>kernel_rfl)
  (case d1=>refine' L2.DefAt.mk' ?a ?l ?c ?k;(case a=>k_is);(case l=>k_is);(case c=>k_is);(case k=>k_is))
  (case d2=>refine' L2.DefAt.mk' ?a ?l ?c ?k;(case a=>k_is);(case l=>k_is);(case c=>k_is);(case k=>k_is))
  (case d3=>refine' L2.DefAt.mk' ?a ?l ?c ?k;(case a=>k_is);(case l=>k_is);(case c=>k_is);(case k=>k_is))
  (case d4=>refine' L2.DefAt.mk' ?a ?l ?c ?k;(case a=>k_is);(case l=>k_is);(case c=>k_is);(case k=>k_is))
  (case d5=>refine' L2.DefAt.mk' ?a ?l ?c ?k;(case a=>k_is);(case l=>k_is);(case c=>k_is);(case k=>k_is))
  (case d6=>refine' L2.DefAt.mk' ?a ?l ?c ?k;(case a=>k_is);(case l=>k_is);(case c=>k_is);(case k=>k_is))
  (case d7=>refine' L2.DefAt.mk' ?a ?l ?c ?k;(case a=>k_is);(case l=>k_is);(case c=>k_is);(case k=>k_is))
  (case d8=>refine' L2.DefAt.mk' ?a ?l ?c ?k;(case a=>k_is);(case l=>k_is);(case c=>k_is);(case k=>k_is))
  (case d9=>refine' L2.DefAt.mk' ?a ?l ?c ?k;(case a=>k_is);(case l=>k_is);(case c=>k_is);(case k=>k_is))
  (case d10=>refine' L2.DefAt.mk' ?a ?l ?c ?k;(case a=>k_is);(case l=>k_is);(case c=>k_is);(case k=>k_is))
  (case d11=>refine' L2.DefAt.mk' ?a ?l ?c ?k;(case a=>k_is);(case l=>k_is);(case c=>k_is);(case k=>k_is))
  (case d12=>refine' L2.DefAt.mk' ?a ?l ?c ?k;(case a=>k_is);(case l=>k_is);(case c=>k_is);(case k=>k_is))
  (case d13=>refine' L2.DefAt.mk' ?a ?l ?c ?k;(case a=>k_is);(case l=>k_is);(case c=>k_is);(case k=>k_is))
  (case d14=>refine' L2.DefAt.mk' ?a ?l ?c ?k;(case a=>k_is);(case l=>k_is);(case c=>k_is);(case k=>k_is))
  (case d15=>refine' L2.DefAt.mk' ?a ?l ?c ?k;(case a=>k_is);(case l=>k_is);(case c=>k_is);(case k=>k_is))
  (case d16=>refine' L2.DefAt.mk' ?a ?l ?c ?k;(case a=>k_is);(case l=>k_is);(case c=>k_is);(case k=>k_is))
  (case d17=>refine' L2.DefAt.mk' ?a ?l ?c ?k;(case a=>k_is);(case l=>k_is);(case c=>k_is);(case k=>k_is))
  (case d18=>refine' L2.DefAt.mk' ?a ?l ?c ?k;(case a=>k_is);(case l=>k_is);(case c=>k_is);(case k=>k_is))
  (case d19=>refine' L2.DefAt.mk' ?a ?l ?c ?k;(case a=>k_is);(case l=>k_is);(case c=>k_is);(case k=>k_is))
  (case d20=>refine' L2.DefAt.mk' ?a ?l ?c ?k;(case a=>k_is);(case l=>k_is);(case c=>k_is);(case k=>k_is))
  (case d21=>refine' L2.DefAt.mk' ?a ?l ?c ?k;(case a=>k_is);(case l=>k_is);(case c=>k_is);(case k=>k_is))
  (case d22=>refine' L2.DefAt.mk' ?a ?l ?c ?k;(case a=>k_is);(case l=>k_is);(case c=>k_is);(case k=>k_is))
  (case d23=>refine' L2.DefAt.mk' ?a ?l ?c ?k;(case a=>k_is);(case l=>k_is);(case c=>k_is);(case k=>k_is))
  (case d24=>refine' L2.DefAt.mk' ?a ?l ?c ?k;(case a=>k_is);(case l=>k_is);(case c=>k_is);(case k=>k_is))
  (case d25=>refine' L2.DefAt.mk' ?a ?l ?c ?k;(case a=>k_is);(case l=>k_is);(case c=>k_is);(case k=>k_is))
  (case d26=>refine' L2.DefAt.mk' ?a ?l ?c ?k;(case a=>k_is);(case l=>k_is);(case c=>k_is);(case k=>k_is))
  (case d27=>refine' L2.DefAt.mk' ?a ?l ?c ?k;(case a=>k_is);(case l=>k_is);(case c=>k_is);(case k=>k_is))
  (case d28=>refine' L2.DefAt.mk' ?a ?l ?c ?k;(case a=>k_is);(case l=>k_is);(case c=>k_is);(case k=>k_is))
  (case d29=>refine' L2.DefAt.mk' ?a ?l ?c ?k;(case a=>k_is);(case l=>k_is);(case c=>k_is);(case k=>k_is))
  (case d30=>refine' L2.DefAt.mk' ?a ?l ?c ?k;(case a=>k_is);(case l=>k_is);(case c=>k_is);(case k=>k_is))
  (case d31=>refine' L2.DefAt.mk' ?a ?l ?c ?k;(case a=>k_is);(case l=>k_is);(case c=>k_is);(case k=>k_is))
  (case d32=>refine' L2.DefAt.mk' ?a ?l ?c ?k;(case a=>k_is);(case l=>k_is);(case c=>k_is);(case k=>k_is))
  (case d33=>refine' L2.DefAt.mk' ?a ?l ?c ?k;(case a=>k_is);(case l=>k_is);(case c=>k_is);(case k=>k_is))
  (case d34=>refine' L2.DefAt.mk' ?a ?l ?c ?k;(case a=>k_is);(case l=>k_is);(case c=>k_is);(case k=>k_is))
  (case d35=>refine' L2.DefAt.mk' ?a ?l ?c ?k;(case a=>k_is);(case l=>k_is);(case c=>k_is);(case k=>k_is))
  (case d36=>refine' L2.DefAt.mk' ?a ?l ?c ?k;(case a=>k_is);(case l=>k_is);(case c=>k_is);(case k=>k_is))
  (case d37=>refine' L2.DefAt.mk' ?a ?l ?c ?k;(case a=>k_is);(case l=>k_is);(case c=>k_is);(case k=>k_is))
  (case d38=>refine' L2.DefAt.mk' ?a ?l ?c ?k;(case a=>k_is);(case l=>k_is);(case c=>k_is);(case k=>k_is))
  (case d39=>refine' L2.DefAt.mk' ?a ?l ?c ?k;(case a=>k_is);(case l=>k_is);(case c=>k_is);(case k=>k_is))
  (case d40=>refine' L2.DefAt.mk' ?a ?l ?c ?k;(case a=>k_is);(case l=>k_is);(case c=>k_is);(case k=>k_is))
  (case d41=>refine' L2.DefAt.mk' ?a ?l ?c ?k;(case a=>k_is);(case l=>k_is);(case c=>k_is);(case k=>k_is))
  (case d42=>refine' L2.DefAt.mk' ?a ?l ?c ?k;(case a=>k_is);(case l=>k_is);(case c=>k_is);(case k=>k_is))
  (case d43=>refine' L2.DefAt.mk' ?a ?l ?c ?k;(case a=>k_is);(case l=>k_is);(case c=>k_is);(case k=>k_is))
  (case d44=>refine' L2.DefAt.mk' ?a ?l ?c ?k;(case a=>k_is);(case l=>k_is);(case c=>k_is);(case k=>k_is))
  (case d45=>refine' L2.DefAt.mk' ?a ?l ?c ?k;(case a=>k_is);(case l=>k_is);(case c=>k_is);(case k=>k_is))
  (case z1=>k_is);(case z2=>k_is);(case z3=>k_is);(case z4=>k_is);(case z5=>k_is);(case z6=>k_is);(case z7=>k_is);(case z8=>k_is);(case z9=>k_is);(case z10=>k_is);(case z11=>k_is);(case z12=>k_is);(case z13=>k_is);(case z14=>k_is);(case z15=>k_is)
  (case y1=>k_is)
  (case gN=>k_is)
  (case gG=>k_is)
  (case qN=>kernel_rfl)
  (case qG=>kernel_rfl)
  (case v1=>kernel_rfl)
  (case v2=>kernel_rfl)
  (case v3=>kernel_rfl)
  (case gT=>k_is)
  (case i1=>kernel_rfl)
  (case i2=>kernel_rfl)
  (case i3=>kernel_rfl)
  (case e1=>kernel_rfl)
  (case e2=>kernel_rfl)
  (case e3=>kernel_rfl)
  (case e4=>kernel_rfl)
  (case e5=>kernel_rfl)
  (case g4=>k_is)
  (case g6=>k_is)
