import PyProof.Rows.All
import Wide.All
import OpenK.AllK
import Wide.FinOn
import Lean
import PyProof.EqAt
import PyProof.EqKinds
import PyProof.TupleCall
import KE.KSortTup
import KE.KRevIter
import PyProof.DictItems
import PyProof.DictValues
import PyProof.DictWalks
import KE.KDictList
import PySem.Challenge.RW_turnery_k61_where_outcomes_stray
set_option hygiene false
set_option compiler.extract_closed false
local macro_rules|`((0:))=>`((by decide +kernel))
local macro_rules|`((1:))=>`(⟨rfl,rfl,rfl,by decide +kernel,rfl,by decide +kernel,by decide +kernel⟩)
local macro_rules|`((2:))=>`((vS "law_turnery_k61_where_outcomes_stray" 429))
local macro_rules|`((3:))=>`((fun _ _=>rfl))
local macro_rules|`((4:))=>`((fun cdv A outer s H vs Q E hr h=>?_))
local macro_rules|`((5:))=>`((B (oT #[]) N N))
local macro_rules|`((6:))=>`((model X.prog X.w))
local macro_rules|`((7:))=>`((Or.inl rfl))
local macro_rules|`((8:))=>`((fun vs H Q E h=>?_))
local macro_rules|`((9:))=>`((Nat.le_refl _))
local macro_rules|`((10:))=>`((Addr × Obj))
local macro_rules|`((11:))=>`((by lia))
local macro_rules|`((12:))=>`((by intro z;cases z))
local macro_rules|`((13:))=>`(((s.heap.update a (Obj.mapSeq fun _=>(#[]:Array Value))).push (seqObj "tuple" vs.toArray 0)))
local macro_rules|`((14:))=>`((QP X (xs ++ caps) scope cl s3.heap.objs.size fp s3 H3))
local macro_rules|`((15:))=>`((by rw [List.length_map];lia))
local macro_rules|`((16:))=>`((by show 0≤sizeLine;decide))
local macro_rules|`((17:))=>`((∀ σ' H',N σ' H'→∃ m',m' < m∧W (i + 1) m' σ' H'))
local macro_rules|`((18:))=>`((by decide))
local macro_rules|`((19:))=>`((vS "turnery.straying" 322))
local macro_rules|`((20:))=>`((by show 3≤sizeLine;decide))
local macro_rules|`((21:))=>`(⟨by decide,by decide⟩)
local macro_rules|`((22:))=>`((s.heap.objs.size + 1))
local macro_rules|`((23:))=>`((by show 2≤sizeLine;decide))
local macro_rules|`((24:))=>`((QP X (xs ++ caps) scope cl C fp s₀ H₀))
local macro_rules|`((25:))=>`((Qi Qg (pv 1) Qb (3:)))
local macro_rules|`((26:))=>`((model prog w))
local macro_rules|`((27:))=>`((by simp))
local macro_rules|`((28:))=>`((CompG.many (xs:=["_law_kind", "_law_rows"]) (caps:=[]) (cap:=[]) (cs:=[]) rfl rfl (0:) (0:) (0:) (0:) (0:) (0:) rfl rfl rfl))
local macro_rules|`((29:))=>`(⟨fun vs H Q E h=>absurd h (no vs H Q E),fun A outer s H args us vs Q E _ _ _ _ h=>absurd h (no vs H Q E)⟩)
local macro_rules|`((30:))=>`((thn (ha pos pins s σ H _ I h) fun us s1 ⟨vs,H1,I1,r1,q1⟩=>?_))
local macro_rules|`((31:))=>`((Qi Qg (pv 2) Qb (3:)))
local macro_rules|`((32:))=>`((B (oE) N N))
local macro_rules|`((33:))=>`((.ListComp elt [⟨tg,iter,ifs,0⟩] scope pos))
local macro_rules|`((34:))=>`((Nat.le_trans (Nat.min_le_right _ _) (by simp [PyData.depth,PyData.depthAll])))
local macro_rules|`((35:))=>`((by show 1≤sizeLine;decide))
local macro_rules|`((36:))=>`(⟨rfl,I.turned (t':=s.toks) (fun b o hb e=>eb b o hb e) f0 f1 f3 f4 f5⟩)
local macro_rules|`((37:))=>`((oT #[]))
local macro_rules|`((38:))=>`((.lst (rows.map (fun x=>V.ref x.1) ++ [.ref pt])))
local macro_rules|`((39:))=>`((upd Ha pt (.tup [.ref kd.2.2.2[j].1,.ref la2])))
local macro_rules|`((40:))=>`((upd H' p (.tup (cutV [.int cs[j].2.1,.int cs[j].2.2.1,.str cs[j].2.2.2] none (some 2)))))
local macro_rules|`((41:))=>`((fun y H6=>∃ ys,H6 acc=some (.lst ys)∧ys.length < sizeLine∧∃ m',m' < m∧W (i + 1) m' (upd H6 acc (.lst (ys ++ [y])))))
local macro_rules|`((42:))=>`((∀ b o,b≠zp→b≠tu→b≠j1→b≠j2→s.heap.get? b=some o→h'.get? b=some o))
local macro_rules|`((43:))=>`((s.heap.push { cls:=.type "tuple_iterator", data:=.fields #[.ref t,.int 0 0] }))
local macro_rules|`((44:))=>`((fun z=>nomatch z))
local macro_rules|`((45:))=>`((Qi Qg (pv 0) Qb (3:)))
local macro_rules|`((46:))=>`((rowK ks))
local macro_rules|`((47:))=>`((List.mem_cons_of_mem _ hu))
local macro_rules|`((48:))=>`(⟨o,e,fun v z=>by rw [d] at z;cases z⟩)
local macro_rules|`((49:))=>`((x == ("__debug__" : Str)))
local macro_rules|`((50:))=>`(⟨fun i m σ H=>m=xs.length - i∧i≤xs.length∧Pv i σ H,⟨xs.length,by simp,Nat.zero_le _,h0⟩,?_⟩)
local macro_rules|`((51:))=>`(⟨fun i m σ H=>m=xs.length - i∧i≤xs.length∧Pv i σ H,⟨xs.length - 0,rfl,Nat.zero_le _,h0⟩,?_⟩)
local macro_rules|`((52:))=>`((ks.map fun k=>V.ref k.1))
local macro_rules|`((53:))=>`((fun _ _ _ _=>(Qv (Qa (pv 0) (Qa (QE (r:=Yo K) ZW rfl G.lst PyProof.Rows.boot_list (Qa (pv 1) Qd)) Qd)))))
local macro_rules|`((54:))=>`(((Sum.inr t.2.1:Key),t.2.2))
local macro_rules|`((55:))=>`((upd (upd H' pt (.tup [.ref ra',.int 0,.int e.2.br])) lw (.lst (V.ref pt :: wy.map fun q=>V.ref q.1))))
local macro_rules|`((56:))=>`(((items.toList.drop (sIx items.size 0 lo)).take (sIx items.size items.size hi - sIx items.size 0 lo)))
local macro_rules|`((57:))=>`((QC I q (27:)))
local macro_rules|`((58:))=>`((Qa (Zw (v:=.ty "tuple") rfl G.tup PyProof.Rows.boot_tuple rfl) Qd))
local macro_rules|`((59:))=>`((fun r s'=>r=.ok (.ret (.bool true))∧OldK s₁.heap s'.heap∧s'.os=s₁.os∧AllBare s'.gens))
noncomputable section
set_option Elab.async false
set_option linter.all false
set_option maxRecDepth 100000
namespace L2
open PySem PySem.Spec PyProof.Rows
abbrev Key:=Sum Int Str
def Jo:Key→Value→Bool
 | .inl k,v=>Value.isInt k v
 | .inr x,v=>Value.isStrOf x v
def O7 (w:World):Key→Int
 | .inl k=>hashInt k
 | .inr x=>hashStr w x
theorem QN:∀ {k:Key} {v:Value},Jo k v=true→(∃ i t,k=Sum.inl i∧v=Value.int i t)∨(∃ x t,k=Sum.inr x∧v=Value.str x t)
 | .inl i,v,h=>by
  obtain ⟨t,e⟩:=Value.isInt_shape (k:=i) (v:=v) h
  exact .inl ⟨i,t,rfl,e⟩
 | .inr x,v,h=>by
  obtain ⟨t,e⟩:=Value.isStrOf_shape (x:=x) (v:=v) h
  exact .inr ⟨x,t,rfl,e⟩
theorem VC (i:Int) (t:Tok):Jo (.inl i) (.int i t)=true:=by simp [Jo,Value.isInt]
theorem Vw (x:Str) (t:Tok):Jo (.inr x) (.str x t)=true:=by simp [Jo,Value.isStrOf]
theorem Nn (a b:Int):decide ((Sum.inl a:Key)=Sum.inl b)=(a == b):=by
 by_cases e:a=b
 ·subst e;simp
 ·have h:¬ (Sum.inl a:Key)=Sum.inl b:=fun q=>e (Sum.inl.inj q)
  rw [decide_eq_false h]
  exact (beq_eq_false_iff_ne.mpr e).symm
theorem Nl (a b:Str):decide ((Sum.inr a:Key)=Sum.inr b)=decide (a=b):=by
 by_cases e:a=b
 ·subst e;simp
 ·have h:¬ (Sum.inr a:Key)=Sum.inr b:=fun q=>e (Sum.inr.inj q)
  rw [decide_eq_false h,decide_eq_false e]
theorem NN (a:Int) (b:Str):decide ((Sum.inl a:Key)=Sum.inr b)=false:=decide_eq_false (fun q=>nomatch q)
theorem Nb (a:Str) (b:Int):decide ((Sum.inr a:Key)=Sum.inl b)=false:=decide_eq_false (fun q=>nomatch q)
def QA (prog:Program) (w:World):PySem.KeyKind prog w Key where
 is:=Jo
 hash:=O7 w
 inj:=fun v a b ha hb=>by
  rcases QN ha with ⟨i,t,rfl,rfl⟩ | ⟨x,t,rfl,rfl⟩
  ·rcases QN hb with ⟨j,u,rfl,e⟩ | ⟨y,u,rfl,e⟩
   ·injection e with e1 _;rw [e1]
   ·exact nomatch e
  ·rcases QN hb with ⟨j,u,rfl,e⟩ | ⟨y,u,rfl,e⟩
   ·exact nomatch e
   ·injection e with e1 _;rw [e1]
 byValue:=fun k v h=>by
  rcases QN h with ⟨i,t,rfl,rfl⟩ | ⟨x,t,rfl,rfl⟩ <;> rfl
 pyHash:=fun hv h=>by
  rcases QN hv with ⟨i,t,rfl,rfl⟩ | ⟨x,t,rfl,rfl⟩
  ·exact wpAny_pyHash_int h
  ·exact wpAny_pyHash_str h
 eqBool:=fun hu hv h=>by
  rcases QN hu with ⟨i,t,rfl,rfl⟩ | ⟨x,t,rfl,rfl⟩
  ·rcases QN hv with ⟨j,u,rfl,rfl⟩ | ⟨y,u,rfl,rfl⟩
   ·rw [Nn] at h;exact wpAny_eqBool_int h
   ·rw [NN] at h;exact SeqAt.EqAt.int_str i t y u _ _ _ _ h
  ·rcases QN hv with ⟨j,u,rfl,rfl⟩ | ⟨y,u,rfl,rfl⟩
   ·rw [Nb] at h;exact SeqAt.EqAt.str_int x t j u _ _ _ _ h
   ·rw [Nl] at h;exact wpAny_eqBool_str h
 «strs»:=fun k x t v h=>by
  rcases QN h with ⟨i,u,rfl,e⟩ | ⟨y,u,rfl,e⟩
  ·exact nomatch e
  ·injection e with e1 _
   subst e1
   cases v <;> rfl
theorem XJ (prog:Program) (w:World) (i:Int) (t:Tok):(QA prog w).is (.inl i) (.int i t)=true:=VC i t
theorem XV (prog:Program) (w:World) (x:Str) (t:Tok):(QA prog w).is (.inr x) (.str x t)=true:=Vw x t
end L2
namespace L2
open PySem PySem.Spec PyProof.Rows
inductive V where
 | non | bl (b:Bool) | int (i:Int) | str (x:Str) | byt (b:Array UInt8) | flt (b:UInt64) | ref (a:Addr) | ty (n:String)
 deriving DecidableEq
def RelV:V→Value→Prop
 | .non,u=>u=Value.none
 | .bl b,u=>u=Value.bool b
 | .int i,u=>∃ t,u=Value.int i t
 | .str x,u=>∃ t,u=Value.str x t
 | .byt b,u=>∃ t,u=Value.bytes b t
 | .flt b,u=>∃ t,u=Value.float b t
 | .ref a,u=>u=Value.ref a
 | .ty n,u=>u=Value.type n
abbrev Vals:List V→List Value→Prop:=Paired RelV
theorem Vals.length {xs:List V} {us:List Value} (r:Vals xs us):xs.length=us.length:=Paired.length r
theorem Vals.get:∀ {xs:List V} {us:List Value} {i:Nat} {x:V},Vals xs us→xs[i]?=some x→∃ u,us[i]?=some u∧RelV x u
 | _,_,_,_,.nil,e=>by simp at e
 | _,_,0,_,.cons r _,e=>by simp at e;subst e;exact ⟨_,rfl,r⟩
 | _,_,i + 1,x,.cons _ t,e=>by
  obtain ⟨u,h1,h2⟩:=Vals.get (i:=i) (x:=x) t (by simpa using e)
  exact ⟨u,by simpa using h1,h2⟩
theorem Vals.set {x:V} {u:Value} (r:RelV x u):∀ {xs:List V} {us:List Value} (i:Nat),Vals xs us→Vals (xs.set i x) (us.set i u)
 | _,_,_,.nil=>.nil
 | _,_,0,.cons _ t=>.cons r t
 | _,_,i + 1,.cons q t=>.cons q (Vals.set r i t)
theorem Vals.append:∀ {xs ys:List V} {us ws:List Value},Vals xs us→Vals ys ws→Vals (xs ++ ys) (us ++ ws)
 | _,_,_,_,.nil,s=>s
 | _,_,_,_,.cons r t,s=>.cons r (Vals.append t s)
theorem Vals.take:∀ {xs:List V} {us:List Value} (n:Nat),Vals xs us→Vals (xs.take n) (us.take n)
 | _,_,0,_=>.nil
 | _,_,_ + 1,.nil=>.nil
 | _,_,n + 1,.cons r t=>.cons r (Vals.take n t)
theorem Vals.drop:∀ {xs:List V} {us:List Value} (n:Nat),Vals xs us→Vals (xs.drop n) (us.drop n)
 | _,_,0,r=>r
 | _,_,_ + 1,.nil=>.nil
 | _,_,n + 1,.cons _ t=>Vals.drop n t
def RelO:Option V→Option Value→Prop
 | some v,some u=>RelV v u
 | none,none=>True
 | _,_=>False
def KV {κ:Type}:List (κ × V)→List (κ × Value)→Prop:=Paired fun (p:κ × V) (q:κ × Value)=>p.1=q.1∧RelV p.2 q.2
def kV:Key→V
 | .inl i=>.int i
 | .inr x=>.str x
inductive HO where
 /-- a list -/
 | lst (xs:List V)
 /-- a tuple (never changes) -/
 | tup (xs:List V)
 /-- a dict whose keys are ints and texts;one whose keys are tuples of ints and texts (the empty one is both) -/
 | dK (kvs:List (Key × V)) | dT (kvs:List (List Key × V))
 /-- a set of ints: its members,its size -/
 | set (S:Int→Bool) (n:Nat)
 /-- an instance of the class at C,its dict at dx,its attributes -/
 | ins (C dx:Addr) (fs:List (Str × V))
 /-- the dict of the instance at x -/
 | own (x:Addr)
 /-- the dict of an exception -/
 | xd (fs:List (Str × V))
 /-- a bound method,f of x -/
 | met (f x:Addr)
 /-- a range object lo,lo + 1,.. below hi -/
 | rng (lo hi:Int)
 /-- a thing that is known to the object (the script;a dict while a loop walks it): read,never written while it is so -/
 | frz (o:Obj) (u:HO)
 /-- a code object's table -/
 | tbl (ps:Array Value)
 /-- any other thing,by what is true of its one object (a def of one's own: SetO a S n:=HO.ext fun h=>..) -/
 | ext (φ:Heap→Prop)
abbrev Hp:=Addr→Option HO
def upd (H:Hp) (a:Addr) (o:HO):Hp:=fun b=>if b=a then some o else H b
theorem Qc {H:Hp} {a:Addr} {o:HO}:upd H a o a=some o:=by unfold upd;rw [if_pos rfl]
theorem Qj {H:Hp} {a b:Addr} {o:HO} (h:b≠a):upd H a o b=H b:=by unfold upd;rw [if_neg h]
theorem ne_of {H:Hp} {a b:Addr} {o u:HO} (h:H a=some o) (h':H b=some u) (d:o≠u):a≠b:=by
 intro e;subst e;rw [h] at h';exact d (Option.some.inj h')
theorem Qk {H:Hp} {a b:Addr} {o:HO} (h:H a=some o) (h':H b=none):a≠b:=by
 intro e;subst e;rw [h] at h';cases h'
section
variable (P:Program) (w:World)
def ObjOk (H:Hp) (h:Heap) (a:Addr):HO→Prop
 | .lst xs=>xs.length≤sizeLine∧∃ (its:List Value) (n:Nat),Vals xs its∧h.get? a=some { cls:=.type "list", data:=.seq its.toArray n }
 | .tup xs=>xs.length≤sizeLine∧∃ its:List Value,Vals xs its∧IsTup h a its.toArray
 | .dK kvs=>kvs.length≤sizeLine∧(a == sysModules)=false∧∃ vs,KV kvs vs∧h.DictOf (QA P w) a vs
 | .dT kvs=>kvs.length≤sizeLine∧(a == sysModules)=false∧∃ xs:List (List Key × Addr × Value),
  Paired (fun (p:List Key × V) (q:List Key × Addr × Value)=>p.1=q.1∧H q.2.1=some (.tup (p.1.map kV))∧RelV p.2 q.2.2) kvs xs ∧
  ∃ o es ep,h.get? a=some o∧o.ExactDict∧o.data=.dict es ep∧es.toList=xs.map (entryOfKey (tupleKind (QA P w)))∧(xs.map (·.1)).Nodup
 | .set S n=>h.SetOf (intKind P w) a S n
 | .ins C dx fs=>H dx=some (.own a)∧fs.length≤1000∧dx≠a∧h.get? a=some (PySem.W.instObj C dx) ∧
  ∃ mA,h.Ns1 dx mA∧(∀ f,RelO (fs.lookup f) (mA f))∧PySem.Within mA (fs.map (·.1))
 | .own _=>∃ o,h.get? a=some o
 | .xd fs=>∃ mA,h.Ns1 a mA∧∀ f,RelO (fs.lookup f) (mA f)
 | .rng lo hi=>∃ t u v,h.get? a=some { cls:=.type "range", data:=.fields #[.int lo t,.int hi u,.int 1 v] }
 | .frz o u=>h.get? a=some o∧ObjOk H h a u
 | .tbl ps=>h.get? a=some { cls:=.none,data:=.fields ps }
 | .met f x=>h.get? a=some (PySem.W.methodObj (.ref f) (.ref x))
 | .ext φ=>φ h∧(∃ o,h.get? a=some o)∧∀ h1 h2:Heap,φ h1→(∀ o,h1.get? a=some o→h2.get? a=some o)→φ h2
def HOk (H:Hp) (h:Heap):Prop:=∀ a o,H a=some o→ObjOk P w H h a o
end
section
variable {P:Program} {w:World} {H H':Hp} {h h':Heap} {a:Addr} {o:HO}
theorem ObjOk.lt (x:ObjOk P w H h a o):a < h.objs.size:=by
 cases o with
 | lst xs=>obtain ⟨_,_,_,_,e⟩:=x;exact Heap.lt_size e
 | tup xs=>obtain ⟨_,_,_,p⟩:=x;exact p.lt
 | dK kvs=>obtain ⟨_,_,_,_,o,_,_,e,_⟩:=x;exact Heap.lt_size e
 | dT kvs=>obtain ⟨_,_,_,_,o,_,_,e,_⟩:=x;exact Heap.lt_size e
 | set S n=>obtain ⟨o,_,_,_,e,_⟩:=x;exact Heap.lt_size e
 | ins C dx fs=>obtain ⟨_,_,_,e,_⟩:=x;exact Heap.lt_size e
 | own y=>obtain ⟨_,e⟩:=x;exact Heap.lt_size e
 | xd fs=>obtain ⟨_,⟨_,_,_,e,_⟩,_⟩:=x;exact Heap.lt_size e
 | rng lo hi=>obtain ⟨_,_,_,e⟩:=x;exact Heap.lt_size e
 | frz ob u=>obtain ⟨e,_⟩:=x;exact Heap.lt_size e
 | tbl ps=>exact Heap.lt_size (show h.get? a=some _ from x)
 | met f y=>exact Heap.lt_size (show h.get? a=some _ from x)
 | ext φ=>obtain ⟨_,⟨_,e⟩,_⟩:=x;exact Heap.lt_size e
theorem Paired.mapP {α β:Type} {F G:α→β→Prop}:∀ {l₁:List α} {l₂:List β},Paired F l₁ l₂→(∀ a b,F a b→G a b)→Paired G l₁ l₂
 | _,_,.nil,_=>.nil
 | _,_,.cons r t,f=>.cons (f _ _ r) (Paired.mapP t f)
theorem ObjOk.stay (x:ObjOk P w H h a o) (k:∀ b u,(b=a∨H b=some (.own a))→h.get? b=some u→h'.get? b=some u)
 (ho:∀ b,H b=some (.own a)→H' b=some (.own a)) (ht:∀ b xs,H b=some (.tup xs)→H' b=some (.tup xs)):ObjOk P w H' h' a o:=by
 induction o with
 | lst xs=>obtain ⟨z,its,n,r,e⟩:=x;exact ⟨z,its,n,r,k _ _ (.inl rfl) e⟩
 | tup xs=>obtain ⟨z,its,r,ob,e,c⟩:=x;exact ⟨z,its,r,ob,k _ _ (.inl rfl) e,c⟩
 | dK kvs=>obtain ⟨z,y,vs,r,ob,es,ep,e,c⟩:=x;exact ⟨z,y,vs,r,ob,es,ep,k _ _ (.inl rfl) e,c⟩
 | dT kvs =>
  obtain ⟨z,y,xs,r,ob,es,ep,e,c⟩:=x
  exact ⟨z,y,xs,Paired.mapP r fun p q z=>⟨z.1,ht _ _ z.2.1,z.2.2⟩,ob,es,ep,k _ _ (.inl rfl) e,c⟩
 | set S n=>obtain ⟨ob,es,ep,t,e,c⟩:=x;exact ⟨ob,es,ep,t,k _ _ (.inl rfl) e,c⟩
 | ins C dx fs =>
  obtain ⟨d,z,ne,e,mA,⟨od,es,ep,e2,c⟩,r⟩:=x
  exact ⟨ho _ d,z,ne,k _ _ (.inl rfl) e,mA,⟨od,es,ep,k _ _ (.inr d) e2,c⟩,r⟩
 | own y=>obtain ⟨ob,e⟩:=x;exact ⟨ob,k _ _ (.inl rfl) e⟩
 | xd fs=>obtain ⟨mA,⟨od,es,ep,e,c⟩,r⟩:=x;exact ⟨mA,⟨od,es,ep,k _ _ (.inl rfl) e,c⟩,r⟩
 | rng lo hi=>obtain ⟨t,u,v,e⟩:=x;exact ⟨t,u,v,k _ _ (.inl rfl) e⟩
 | frz ob u ih=>obtain ⟨e,q⟩:=x;exact ⟨k _ _ (.inl rfl) e,ih q⟩
 | tbl ps =>
  have e:h.get? a=some { cls:=.none,data:=.fields ps }:=x
  show h'.get? a=some { cls:=.none,data:=.fields ps }
  exact k a _ (.inl rfl) e
 | met f y =>
  have e:h.get? a=some (PySem.W.methodObj (.ref f) (.ref y)):=x
  show h'.get? a=some (PySem.W.methodObj (.ref f) (.ref y))
  exact k a _ (.inl rfl) e
 | ext φ=>obtain ⟨p,⟨o,e⟩,st⟩:=x;exact ⟨st _ _ p fun o q=>k _ _ (.inl rfl) q,⟨o,k _ _ (.inl rfl) e⟩,st⟩
theorem HOk.lt (x:HOk P w H h) (e:H a=some o):a < h.objs.size:=(x a o e).lt
theorem HOk.fresh (x:HOk P w H h) (e:h.objs.size≤a):H a=none:=by
 cases q:H a with
 | none=>rfl
 | some u=>exact absurd (Nat.lt_of_lt_of_le (x.lt q) e) (Nat.lt_irrefl _)
theorem HOk.kept (x:HOk P w H h) (k:∀ b u,h.get? b=some u→h'.get? b=some u):HOk P w H h':=fun a o e =>
 (x a o e).stay (fun b u _ q=>k b u q) (fun _ q=>q) fun _ _ q=>q
theorem HOk.laid (x:HOk P w H h) (k:∀ b u,h.get? b=some u→h'.get? b=some u) (hp:h.objs.size≤a) (new:ObjOk P w (upd H a o) h' a o):HOk P w (upd H a o) h':=fun b u e=>by
 have hn:=x.fresh hp
 by_cases hb:b=a
 ·subst hb;rw [Qc] at e;cases e;exact new
 ·rw [Qj hb] at e
  exact (x b u e).stay (fun c v _ q=>k c v q) (fun c q=>by rw [Qj (Qk q hn)];exact q) fun c xs q=>by rw [Qj (Qk q hn)];exact q
end
def Rd (H:Hp) (a:Addr) (u:HO):Prop:=H a=some u∨∃ o,H a=some (.frz o u)
theorem Rd.ok {P:Program} {w:World} {H:Hp} {h:Heap} {a:Addr} {u:HO} (r:Rd H a u) (x:HOk P w H h):ObjOk P w H h a u:=by
 rcases r with r | ⟨o,r⟩
 ·exact x a u r
 ·obtain ⟨_,q⟩:=x a _ r
  exact q
def Mut:Option HO→Prop
 | some (.lst _)=>True
 | some (.dK _)=>True
 | some (.dT _)=>True
 | some (.set _ _)=>True
 | some (.ins _ _ _)=>True
 | some (.ext _)=>True
 | _=>False
section
variable {P:Program} {w:World} {H:Hp} {h h':Heap} {x e:Addr} {o':HO}
theorem HOk.write (ok:HOk P w H h) (mu:Mut (H x)) (he:e=x∨H e=some (.own x)) (k:∀ b u,b≠e→h.get? b=some u→h'.get? b=some u) (heo:∃ u,h'.get? e=some u)
 (new:ObjOk P w (upd H x o') h' x o'):HOk P w (upd H x o') h':=fun b u q=>by
 have nown:∀ c y,H c=some (.own y)→c≠x:=fun c y r z=>by subst z;rw [r] at mu;exact mu
 have ntup:∀ c xs,H c=some (.tup xs)→c≠x:=fun c xs r z=>by subst z;rw [r] at mu;exact mu
 by_cases hb:b=x
 ·subst hb;rw [Qc] at q;cases q;exact new
 ·rw [Qj hb] at q
  by_cases hbe:b=e
  ·have q':H b=some (.own x):=by
    rcases he with z | z
    ·exact absurd (hbe.trans z) hb
    ·rw [hbe];exact z
   rw [q] at q';cases q'
   obtain ⟨v,hv⟩:=heo
   exact ⟨v,by rw [hbe];exact hv⟩
  ·refine (ok b u q).stay (fun c v hc r=>k c v ?_ r) (fun c r=>by rw [Qj (nown c b r)];exact r) fun c xs r=>by rw [Qj (ntup c xs r)];exact r
   rcases hc with rfl | hc
   ·exact hbe
   ·rintro rfl
    rcases he with z | z
    ·exact nown c b hc z
    ·rw [hc] at z;cases z;exact hb rfl
end
structure Un (fs ex:List Addr) (H H':Hp) (h h':Heap):Prop where
 keep:∀ b o,h.get? b=some o→H b=none→b ∉ fs→b ∉ ex→h'.get? b=some o
 slot:∀ b o,h.get? b=some o→H b=none→b ∈ fs→b ∉ ex→∃ sl,h'.get? b=some { o with slots:=sl }
 free:∀ b o,h.get? b=some o→H b=none→b ∉ ex→H' b=none
 there:∀ b o,h.get? b=some o→b ∉ ex→∃ o',h'.get? b=some o'
 tups:∀ b xs,H b=some (.tup xs)→H' b=some (.tup xs)
 frzs:∀ b o u,H b=some (.frz o u)→H' b=some (.frz o u)
 tbls:∀ b ps,H b=some (.tbl ps)→∃ more,H' b=some (.tbl (ps ++ more))
section
variable {fs fs' ex ex':List Addr} {H H1 H2:Hp} {h h1 h2 h':Heap} {a x e:Addr} {o:HO}
theorem Un.any (u:Un fs ex H H1 h h1) {b:Addr} {ob:Obj} (q:h.get? b=some ob) (n:H b=none) (hx:b ∉ ex):∃ sl,h1.get? b=some { ob with slots:=sl }:=by
 by_cases hb:b ∈ fs
 ·exact u.slot b ob q n hb hx
 ·exact ⟨ob.slots,u.keep b ob q n hb hx⟩
theorem Un.kept (k:∀ b u,h.get? b=some u→h'.get? b=some u):Un fs ex H H h h' :=
 ⟨fun b ob q _ _ _=>k b ob q,fun b ob q _ _ _=>⟨ob.slots,k b ob q⟩,fun _ _ _ n _=>n,fun b ob q _=>⟨ob,k b ob q⟩,fun _ _ q=>q,fun _ _ _ q=>q,fun _ ps q=>⟨#[],by rw [q];simp⟩⟩
theorem Un.refl:Un fs ex H H h h:=Un.kept fun _ _ q=>q
theorem Un.laid (k:∀ b u,h.get? b=some u→h'.get? b=some u) (hp:h.objs.size≤a) (hn:H a=none):Un fs ex H (upd H a o) h h' where
 keep:=fun b u q _ _ _=>k b u q
 slot:=fun b u q _ _ _=>⟨u.slots,k b u q⟩
 free:=fun b u q n _=>by rw [Qj (Nat.ne_of_lt (Nat.lt_of_lt_of_le (Heap.lt_size q) hp))];exact n
 there:=fun b u q _=>⟨u,k b u q⟩
 tups:=fun b xs q=>by rw [Qj (Qk q hn)];exact q
 frzs:=fun b u xs q=>by rw [Qj (Qk q hn)];exact q
 tbls:=fun b ps q=>⟨#[],by rw [Qj (Qk q hn),q];simp⟩
theorem Un.write (mu:Mut (H x)) (he:e=x∨H e=some (.own x)) (k:∀ b u,b≠e→h.get? b=some u→h'.get? b=some u) (heo:∃ u,h'.get? e=some u):Un fs ex H (upd H x o) h h':=by
 have hx:∀ b,H b=none→b≠x:=fun b n z=>by subst z;rw [n] at mu;exact mu
 have hb:∀ b,H b=none→b≠e:=fun b n z=>by
  subst z
  rcases he with r | r
  ·exact hx b n r
  ·rw [n] at r;cases r
 have hm:∀ b u,H b=some u→¬ Mut (some u)→b≠x:=fun b u q nm z=>by subst z;rw [q] at mu;exact nm mu
 refine ⟨fun b u q n _ _=>k b u (hb b n) q,fun b u q n _ _=>⟨u.slots,k b u (hb b n) q⟩,fun b u q n _=>by rw [Qj (hx b n)];exact n,fun b u q _=>?_,fun b xs q=>by rw [Qj (hm b _ q fun z=>z)];exact q,fun b u xs q=>by rw [Qj (hm b _ q fun z=>z)];exact q,fun b ps q=>⟨#[],by rw [Qj (hm b _ q fun z=>z),q];simp⟩⟩
 by_cases hbe:b=e
 ·subst hbe;exact heo
 ·exact ⟨u,k b u hbe q⟩
end
def trk (h:Heap) (H:Hp):List Addr:=(List.range h.objs.size).filter fun a=>(H a).isSome
def JK (h:Heap) (H:Hp):Heap:=PySem.W.hideAll h (trk h H)
theorem VI (h:Heap) (H:Hp):(JK h H).objs.size=h.objs.size:=PySem.W.hideAll_size _ _
theorem Gz {h:Heap} {H:Hp} {b:Addr} {o:Obj} (e:h.get? b=some o) (n:H b=none):(JK h H).get? b=some o :=
 PySem.W.hideAll_get _ e fun hm=>by
  have q:(H b).isSome=true:=(List.mem_filter.mp hm).2
  rw [n] at q;simp at q
theorem MJ {h:Heap} {H:Hp} {b:Addr} {o:Obj} (e:(JK h H).get? b=some o):h.get? b=some o∧H b=none:=by
 have e':h.get? b=some o:=PySem.W.of_hideAll (trk h H) e
 refine ⟨e',?_⟩
 cases q:H b with
 | none=>rfl
 | some x =>
  have hm:b ∈ trk h H:=List.mem_filter.mpr ⟨List.mem_range.mpr (Heap.lt_size e'),by simp [q]⟩
  have z:(JK h H).get? b=none:=PySem.W.hideAll_none (trk h H) hm
  rw [z] at e;cases e
def L5 (g h:Heap) (L:Addr):List (10:):=(List.range h.objs.size).filterMap fun a=>if a=L∨(g.get? a).isSome=true then none else (h.get? a).map fun o=>(a,o)
def rest (g h:Heap) (L d:Addr):List (10:):=(L5 g h L).filter fun p=>decide (p.1≠d)
end L2
namespace L2
open PySem PySem.Spec PyProof.Rows
structure Mod (K:PySem.W.Frag) (mg:Str→Option Value) (base:Heap):Prop where
 kin:K.In base
 glob:base.Ns mainGlobals mg
 blt:∃ mb,base.Ns builtinsNs mb∧∀ x:Str,x ≠ "__name__" → mb x=bootBuiltins x
 nolimit:base.NoLimit
structure Cx where
 prog:Program
 w:World
 K:PySem.W.Frag
 mg:Str→Option Value
 base:Heap
 A:Around
 N:List Str
 s₀:Shared
 H₀:Hp
 env:Env
 outer:List Env
 stack:List Env
 ex:List Addr
 fn:Str→Bool
 calm:Bool
 pn:List (10:)
 xe:Value→Shared→Prop
def frs (l:List Env):List Addr:=l.filterMap (·.frame)
abbrev Cx.fs (X:Cx):List Addr:=frs X.outer
def Vis (sc:Scope) (x:Str):Prop:=sc.names.lookup x=some .local∨sc.names.lookup x=some .cell∨sc.names.lookup x=some .free
def Loc (sc:Scope) (x:Str):Prop:=sc.names.lookup x=some .local∨sc.names.lookup x=some .cell
def Pb (env:Env) (h:Heap) (m:Str→Option Value) (x:Str) (u:Value):Prop :=
 (env.kindOf x=some .local∧m x=some u)∨((env.kindOf x=some .cell∨env.kindOf x=some .free)∧∃ c,env.cells.lookup x=some c∧h.IsCell c (some u))
structure Cx.Ok (X:Cx):Prop where
 mod:Mod X.K X.mg X.base
 kind:X.env.scope.kind=.function
 glob:X.env.globals=mainGlobals
 blt:X.env.builtins=builtinsNs
 above:X.s₀.heap.objs.size≤X.env.locals
 inj:∀ x y c,X.env.cells.lookup x=some c→X.env.cells.lookup y=some c→x=y
 has:∀ x,(X.env.kindOf x=some .cell∨X.env.kindOf x=some .free)→∃ c,X.env.cells.lookup x=some c
 cab:∀ x c,X.fn x=true→X.env.cells.lookup x=some c→X.s₀.heap.objs.size≤c
 hd:X.calm=true→X.A.handled=none
 frames:X.A.frames=some X.stack
 stk:X.stack=X.outer∨(X.stack=X.env :: X.outer∧X.env.frame=some X.env.locals)
 exf:∀ b ∈ X.ex,b≠X.env.locals∧∀ x c,X.env.cells.lookup x=some c→c≠b
 bs:∀ b o,X.base.get? b=some o→X.s₀.heap.get? b=some o∧X.H₀ b=none
 bsz:X.base.objs.size≤X.s₀.heap.objs.size
 noex:∀ b o,X.base.get? b=some o→b ∉ X.ex
 exfs:∀ b ∈ X.ex,b ∉ X.fs
 funs:X.s₀.heap.FunFrames X.base X.outer
 frf:∀ b ∈ X.fs,X.H₀ b=none
structure Inv (X:Cx) (pins:List (10:)) (σ:List (Option V)) (H:Hp) (s:Shared):Prop where
 ok:X.Ok
 os:s.os=X.s₀.os
 bare:AllBare s.gens
 base:Un X.fs X.ex X.H₀ H X.s₀.heap s.heap
 loc:∃ m,s.heap.Ns X.env.locals m∧∀ (i:Nat) (x:Str) (v:V),X.N[i]?=some x→σ[i]?=some (some v)→Vis X.env.scope x→∃ u,RelV v u∧Pb X.env s.heap m x u
 cell:∀ x c,X.env.cells.lookup x=some c→∃ v,s.heap.IsCell c v
 free:H X.env.locals=none
 freeC:∀ x c,X.env.cells.lookup x=some c→H c=none
 pin:∀ p ∈ X.pn ++ pins,s.heap.get? p.1=some p.2∧H p.1=none∧p.1≠X.env.locals∧p.1 ∉ X.fs∧∀ v,p.2.data≠.cell v
 hok:HOk X.prog X.w H s.heap
 len:σ.length=X.N.length
section
variable {X:Cx} {pins:List (10:)} {σ:List (Option V)} {H H':Hp} {s:Shared} {h':Heap}
theorem Cx.Ok.nofr (ok:X.Ok) {b:Addr} {o:Obj} (e:X.base.get? b=some o):b ∉ X.fs:=fun hb=>by
 have:=(ok.funs.mem hb).1
 rw [e] at this;cases this
theorem Inv.bs (I:Inv X pins σ H s):∀ b o,X.base.get? b=some o→s.heap.get? b=some o∧H b=none:=fun b o e =>
 ⟨I.base.keep b o (I.ok.bs b o e).1 (I.ok.bs b o e).2 (I.ok.nofr e) (I.ok.noex b o e),I.base.free b o (I.ok.bs b o e).1 (I.ok.bs b o e).2 (I.ok.noex b o e)⟩
theorem Inv.bk (I:Inv X pins σ H s):∀ b o,X.base.get? b=some o→s.heap.get? b=some o:=fun b o e=>(I.bs b o e).1
theorem Inv.mod (I:Inv X pins σ H s):Mod X.K X.mg X.base:=I.ok.mod
theorem Inv.kIn (I:Inv X pins σ H s):X.K.In s.heap:=I.ok.mod.kin.keeps I.bk
theorem Inv.lt (I:Inv X pins σ H s):X.env.locals < s.heap.objs.size:=let ⟨_,hn,_⟩:=I.loc;hn.lt
theorem Inv.sz (I:Inv X pins σ H s):X.s₀.heap.objs.size≤s.heap.objs.size:=Nat.le_trans I.ok.above (Nat.le_of_lt I.lt)
theorem Inv.nofs (I:Inv X pins σ H s) {a:Addr} (h:s.heap.objs.size≤a):a ∉ X.fs:=fun hb=>by
 obtain ⟨_,o,ho,_⟩:=I.ok.funs.mem hb
 exact absurd (Nat.lt_of_lt_of_le (Heap.lt_size ho) (Nat.le_trans I.sz h)) (Nat.lt_irrefl _)
theorem Inv.cne (I:Inv X pins σ H s):∀ x c,X.env.cells.lookup x=some c→c≠X.env.locals:=fun x c e z=>by
 obtain ⟨v,o,ho,hd⟩:=I.cell x c e
 obtain ⟨m,⟨o',es,ep,ho',hd',_⟩,_⟩:=I.loc
 rw [z,ho'] at ho;cases ho;rw [hd'] at hd;cases hd
theorem Inv.funs (I:Inv X pins σ H s):s.heap.FunFrames X.base X.outer:=by
 have all:∀ (l:List Env),(∀ b ∈ frs l,b ∈ X.fs)→X.s₀.heap.FunFrames X.base l→s.heap.FunFrames X.base l:=by
  intro l
  induction l with
  | nil=>intro _ _;trivial
  | cons env r ih =>
   intro hs hl
   obtain ⟨hk,⟨L,o,hf,hn,ho,hd⟩,hr⟩:=hl
   have hL:L ∈ X.fs:=hs L (by unfold frs;rw [List.filterMap_cons,hf];exact List.mem_cons_self)
   obtain ⟨sl,e⟩:=I.base.slot L o ho (I.ok.frf L hL) hL fun z=>I.ok.exfs L z hL
   exact ⟨hk,⟨L,_,hf,hn,e,hd⟩,ih (fun b hb=>hs b (by unfold frs;rw [List.filterMap_cons,hf];exact List.mem_cons_of_mem _ hb)) hr⟩
 exact all X.outer (fun _ hb=>hb) I.ok.funs
theorem Inv.stack (I:Inv X pins σ H s):s.heap.FunFrames X.base X.stack:=by
 rcases I.ok.stk with e | ⟨e,hf⟩
 ·rw [e];exact I.funs
 ·rw [e]
  obtain ⟨m,hn,_⟩:=I.loc
  refine .cons (by rw [I.ok.kind];decide) hf hn ?_ I.funs
  exact Heap.get?_none_of_le (Nat.le_trans I.ok.bsz I.ok.above)
theorem Inv.stkSub (I:Inv X pins σ H s):∀ b ∈ frs X.stack,b ∈ X.env.locals :: X.fs:=fun b hb=>by
 rcases I.ok.stk with e | ⟨e,hf⟩
 ·rw [e] at hb;exact List.mem_cons_of_mem _ hb
 ·rw [e] at hb
  unfold frs at hb
  rw [List.filterMap_cons,hf] at hb
  exact hb
theorem Inv.stkFree (I:Inv X pins σ H s):∀ b ∈ frs X.stack,H b=none:=fun b hb=>by
 rcases List.mem_cons.mp (I.stkSub b hb) with e | hb
 ·rw [e];exact I.free
 ·obtain ⟨_,o,ho,_⟩:=I.ok.funs.mem hb
  exact I.base.free b o ho (I.ok.frf b hb) fun z=>I.ok.exfs b z hb
theorem Inv.step {g':Array GenState} {t':Nat} {d':Drawn} {ch:List Addr} (I:Inv X pins σ H s)
 (hch:∀ b ∈ ch,(b ∈ X.ex∨X.s₀.heap.objs.size≤b)∧b≠X.env.locals∧(∀ x c,X.env.cells.lookup x=some c→c≠b)∧∀ p ∈ X.pn ++ pins,p.1≠b)
 (keep:∀ b o,b≠X.env.locals→b ∉ X.fs→b ∉ ch→s.heap.get? b=some o→H b=none→h'.get? b=some o)
 (slot:∀ b o,b≠X.env.locals→b ∈ X.fs→b ∉ ch→s.heap.get? b=some o→H b=none→∃ sl,h'.get? b=some { o with slots:=sl }) (free:∀ b o,b ∉ ch→s.heap.get? b=some o→H b=none→H' b=none)
 (there:∀ b o,b ∉ ch→s.heap.get? b=some o→∃ o',h'.get? b=some o')
 (tups:∀ b xs,H b=some (.tup xs)→H' b=some (.tup xs)) (frzs:∀ b o u,H b=some (.frz o u)→H' b=some (.frz o u)) (tbls:∀ b ps,H b=some (.tbl ps)→∃ more,H' b=some (.tbl (ps ++ more)))
 (ns:∀ m,s.heap.Ns X.env.locals m→h'.Ns X.env.locals m) (hok:HOk X.prog X.w H' h') (hg:AllBare g') :
 Inv X pins σ H' { s with heap:=h',gens:=g',drawn:=d',toks:=t' }:=by
 have neL:∀ b o,X.s₀.heap.get? b=some o→b≠X.env.locals:=fun b o e=>Nat.ne_of_lt (Nat.lt_of_lt_of_le (Heap.lt_size e) I.ok.above)
 have neC:∀ b o,X.s₀.heap.get? b=some o→b ∉ X.ex→b ∉ ch:=fun b o e hx hb=>by
  rcases (hch b hb).1 with z | z
  ·exact hx z
  ·exact absurd (Nat.lt_of_lt_of_le (Heap.lt_size e) z) (Nat.lt_irrefl _)
 have cellK:∀ x c,X.env.cells.lookup x=some c→∀ v,s.heap.IsCell c v→h'.IsCell c v:=fun x c e v ⟨o,ho,hd⟩=>by
  have nch:c ∉ ch:=fun z=>(hch c z).2.2.1 x c e rfl
  by_cases hc:c ∈ X.fs
  ·obtain ⟨sl,q⟩:=slot c o (I.cne x c e) hc nch ho (I.freeC x c e)
   exact ⟨_,q,hd⟩
  ·exact ⟨o,keep c o (I.cne x c e) hc nch ho (I.freeC x c e),hd⟩
 refine ⟨I.ok,I.os,hg,⟨fun b o e n hb hx=>?_,fun b o e n hb hx=>?_,fun b o e n hx=>?_,fun b o e hx=>?_,fun b xs e=>tups b xs (I.base.tups b xs e),fun b o xs e=>frzs b o xs (I.base.frzs b o xs e),fun b ps e=>?_⟩,?_,fun x c e=>?_,?_,fun x c e=>?_,fun p hp=>?_,hok,I.len⟩
 ·exact keep b o (neL b o e) hb (neC b o e hx) (I.base.keep b o e n hb hx) (I.base.free b o e n hx)
 ·obtain ⟨sl,e1⟩:=I.base.slot b o e n hb hx
  obtain ⟨sl',e2⟩:=slot b _ (neL b o e) hb (neC b o e hx) e1 (I.base.free b o e n hx)
  exact ⟨sl',e2⟩
 ·obtain ⟨o',e1⟩:=I.base.there b o e hx
  exact free b o' (neC b o e hx) e1 (I.base.free b o e n hx)
 ·obtain ⟨o',e1⟩:=I.base.there b o e hx
  exact there b o' (neC b o e hx) e1
 ·obtain ⟨m1,e1⟩:=I.base.tbls b ps e
  obtain ⟨m2,e2⟩:=tbls b _ e1
  exact ⟨m1 ++ m2,by rw [e2,Array.append_assoc]⟩
 ·obtain ⟨m,hn,hl⟩:=I.loc
  refine ⟨m,ns m hn,fun i x v e1 e2 e3=>?_⟩
  obtain ⟨u,r,l⟩:=hl i x v e1 e2 e3
  refine ⟨u,r,?_⟩
  rcases l with l | ⟨k,c,e,z⟩
  ·exact .inl l
  ·exact .inr ⟨k,c,e,cellK x c e _ z⟩
 ·obtain ⟨v,z⟩:=I.cell x c e
  exact ⟨v,cellK x c e v z⟩
 ·obtain ⟨m,⟨o,_,_,ho,_⟩,_⟩:=I.loc
  exact free _ o (fun z=>(hch _ z).2.1 rfl) ho I.free
 ·obtain ⟨v,o,ho,hd⟩:=I.cell x c e
  exact free c o (fun z=>(hch c z).2.2.1 x c e rfl) ho (I.freeC x c e)
 ·obtain ⟨e,n,ne,nf,d⟩:=I.pin p hp
  have nch:p.1 ∉ ch:=fun z=>(hch p.1 z).2.2.2 p hp rfl
  exact ⟨keep p.1 p.2 ne nf nch e n,free p.1 p.2 nch e n,ne,nf,d⟩
theorem Inv.un {t':Nat} (I:Inv X pins σ H s) (u:Un X.fs [] H H' s.heap h') (hok:HOk X.prog X.w H' h'):Inv X pins σ H' { s with heap:=h',toks:=t' }:=by
 obtain ⟨m,⟨o,es,ep,ho,r⟩,_⟩:=id I.loc
 obtain ⟨sl,hL⟩:=u.any ho I.free (27:)
 exact I.step (g':=s.gens) (d':=s.drawn) (ch:=[]) (fun _ z=>nomatch z) (fun b o _ hb _ e n=>u.keep b o e n hb (27:)) (fun b o _ hb _ e n=>u.slot b o e n hb (27:)) (fun b o _ e n=>u.free b o e n (27:)) (fun b o _ e=>u.there b o e (27:)) u.tups u.frzs u.tbls (fun m' hm=>by
  obtain ⟨o',es',ep',ho',r'⟩:=hm
  rw [ho] at ho';cases ho'
  exact ⟨_,es',ep',hL,r'⟩) hok I.bare
theorem Inv.call {g':Array GenState} {t':Nat} {d':Drawn} {ch:List Addr} (I:Inv X pins σ H s) (u:Un (frs X.stack) ch H H' s.heap h') (hok:HOk X.prog X.w H' h') (hg:AllBare g')
 (hch:∀ b ∈ ch,(b ∈ X.ex∨X.s₀.heap.objs.size≤b)∧b≠X.env.locals∧(∀ x c,X.env.cells.lookup x=some c→c≠b)∧∀ p ∈ X.pn ++ pins,p.1≠b) :
 Inv X pins σ H' { s with heap:=h',gens:=g',drawn:=d',toks:=t' }:=by
 obtain ⟨m,⟨o,es,ep,ho,r⟩,_⟩:=id I.loc
 obtain ⟨sl,hL⟩:=u.any ho I.free fun z=>(hch _ z).2.1 rfl
 exact I.step (ch:=ch) hch (fun b o hL hb hc e n=>u.keep b o e n (fun z=>(List.mem_cons.mp (I.stkSub b z)).elim hL hb) hc) (fun b o _ _ hc e n=>u.any e n hc) (fun b o hc e n=>u.free b o e n hc) (fun b o hc e=>u.there b o e hc) u.tups u.frzs u.tbls (fun m' hm=>by
  obtain ⟨o',es',ep',ho',r'⟩:=hm
  rw [ho] at ho';cases ho'
  exact ⟨_,es',ep',hL,r'⟩) hok hg
theorem Inv.turned {t':Nat} {it:Addr} (I:Inv X pins σ H s) (k:∀ b o,b≠it→s.heap.get? b=some o→h'.get? b=some o) (hn:H it=none) (hL:it≠X.env.locals)
 (h1:it ∈ X.ex∨X.s₀.heap.objs.size≤it) (h2:∀ x c,X.env.cells.lookup x=some c→c≠it) (h3:∀ p ∈ X.pn ++ pins,p.1≠it):Inv X pins σ H { s with heap:=h',toks:=t' }:=by
 have nit:∀ b u,H b=some u→b≠it:=fun b u e z=>by rw [z,hn] at e;cases e
 refine I.step (g':=s.gens) (d':=s.drawn) (ch:=[it]) (fun b hb=>?_) (fun b o _ _ hc e _=>k b o (fun z=>hc (by simp [z])) e) (fun b o _ _ hc e _=>⟨o.slots,k b o (fun z=>hc (by simp [z])) e⟩) (fun _ _ _ _ n=>n)
  (fun b o hc e=>⟨o,k b o (fun z=>hc (by simp [z])) e⟩) (fun _ _ e=>e) (fun _ _ _ e=>e) (fun b ps e=>⟨#[],by rw [e];simp⟩) (fun m hm=>?_) (fun b u e=>?_) I.bare
 ·have e:b=it:=by simpa using hb
  subst e
  exact ⟨h1,hL,h2,h3⟩
 ·obtain ⟨o,es,ep,ho,r⟩:=hm
  exact ⟨o,es,ep,k _ o (Ne.symm hL) ho,r⟩
 ·refine (I.hok b u e).stay (fun c v hc q=>k c v ?_ q) (fun _ q=>q) fun _ _ q=>q
  rcases hc with z | z
  ·rw [z];exact nit b u e
  ·exact nit c _ z
theorem Inv.tok (I:Inv X pins σ H s) (t:Nat):Inv X pins σ H { s with toks:=t }:=I.un (h':=s.heap) (t':=t) Un.refl I.hok
theorem Inv.kept {t':Nat} (I:Inv X pins σ H s) (k:∀ b u,s.heap.get? b=some u→h'.get? b=some u):Inv X pins σ H { s with heap:=h',toks:=t' }:=I.un (Un.kept k) (I.hok.kept k)
theorem Inv.laid {a:Addr} {o:HO} {t':Nat} (I:Inv X pins σ H s) (k:∀ b u,s.heap.get? b=some u→h'.get? b=some u) (hp:s.heap.objs.size≤a) (new:ObjOk X.prog X.w (upd H a o) h' a o) :
 Inv X pins σ (upd H a o) { s with heap:=h',toks:=t' }:=I.un (Un.laid k hp (I.hok.fresh hp)) (I.hok.laid k hp new)
theorem Inv.write {x e:Addr} {o:HO} {t':Nat} (I:Inv X pins σ H s) (mu:Mut (H x)) (he:e=x∨H e=some (.own x)) (k:∀ b u,b≠e→s.heap.get? b=some u→h'.get? b=some u) (heo:∃ u,h'.get? e=some u)
 (new:ObjOk X.prog X.w (upd H x o) h' x o):Inv X pins σ (upd H x o) { s with heap:=h',toks:=t' }:=I.un (Un.write mu he k heo) (I.hok.write mu he k heo new)
theorem Inv.pins_of {pins':List (10:)} (I:Inv X pins σ H s) (h:∀ p ∈ pins',s.heap.get? p.1=some p.2∧H p.1=none∧p.1≠X.env.locals∧p.1 ∉ X.fs∧∀ v,p.2.data≠.cell v):Inv X pins' σ H s :=
 ⟨I.ok,I.os,I.bare,I.base,I.loc,I.cell,I.free,I.freeC,fun p hp=>(List.mem_append.mp hp).elim (fun z=>I.pin p (List.mem_append_left _ z)) (h p),I.hok,I.len⟩
theorem Xz {N:List Str} (hN:N.Nodup) {i j:Nat} {x:Str} (a:N[i]?=some x) (b:N[j]?=some x):i=j:=by
 obtain ⟨h1,e1⟩:=List.getElem?_eq_some_iff.mp a
 obtain ⟨h2,e2⟩:=List.getElem?_eq_some_iff.mp b
 exact (List.getElem_inj hN).mp (e1.trans e2.symm)
theorem JA {M:Model} {A:Around} {E:Value→Shared→Prop} {i:Nat} {x:Str} {v:V} {u:Value} {Q:Unit→Shared→Prop} (I:Inv X pins σ H s) (hN:X.N.Nodup) (hi:X.N[i]?=some x) (hx:Loc X.env.scope x) (r:RelV v u)
 (h:∀ s',Inv X pins (σ.set i (some v)) H s'→(∃ a,Heap.SameBut a s.heap s'.heap∧(a=X.env.locals∨X.env.cells.lookup x=some a))→Q () s') (hf:X.fn x=true∨X.env.scope.names.lookup x=some .local:=by first | exact .inl rfl | exact .inr rfl | assumption):wpAny M A (storeName X.env x u) Q E s:=by
 obtain ⟨m,hn,hl⟩:=id I.loc
 have hcls:(X.env.scope.kind == .class || (X.env.scope.kind == .module && X.env.locals != X.env.globals))=false:=by rw [I.ok.kind];rfl
 have hiσ:i < σ.length:=by rw [I.len];exact (List.getElem?_eq_some_iff.mp hi).1
 have cne:=I.cne
 have tracked:∀ {a:Addr} {h':Heap},(∃ o,s.heap.get? a=some o∧H a=none)→Heap.SameBut a s.heap h'→HOk X.prog X.w H h':=fun {a h'} ha hs b ob e=>by
  obtain ⟨_,_,hfree⟩:=ha
  refine (I.hok b ob e).stay (fun c w' hc q=>(hs.2 c ?_).trans q) (fun _ q=>q) fun _ _ q=>q
  rintro rfl
  rcases hc with rfl | hc
  ·rw [hfree] at e;cases e
  ·rw [hfree] at hc;cases hc
 rcases hx with hk | hk
 ·refine wpAny_storeName_local hk hn (fun h' hn' hs=>?_) hcls
  obtain ⟨oL,_,_,hoL,_⟩:=id hn
  refine h _ ⟨I.ok,I.os,I.bare,⟨fun b o e n hb hx=>?_,fun b o e n hb hx=>?_,I.base.free,fun b o e hx=>?_,I.base.tups,I.base.frzs,I.base.tbls⟩,⟨_,hn',fun j y v' e1 e2 e3=>?_⟩,fun y c e=>?_,I.free,I.freeC,fun p hp=>?_,tracked ⟨oL,hoL,I.free⟩ hs,by simpa using I.len⟩ ⟨_,hs,.inl rfl⟩
  ·exact (hs.2 b (Nat.ne_of_lt (Nat.lt_of_lt_of_le (Heap.lt_size e) I.ok.above))).trans (I.base.keep b o e n hb hx)
  ·obtain ⟨sl,e1⟩:=I.base.slot b o e n hb hx
   exact ⟨sl,(hs.2 b (Nat.ne_of_lt (Nat.lt_of_lt_of_le (Heap.lt_size e) I.ok.above))).trans e1⟩
  ·obtain ⟨o',e1⟩:=I.base.there b o e hx
   exact ⟨o',(hs.2 b (Nat.ne_of_lt (Nat.lt_of_lt_of_le (Heap.lt_size e) I.ok.above))).trans e1⟩
  ·by_cases hj:j=i
   ·subst hj
    rw [hi] at e1;cases e1
    rw [List.getElem?_set_self hiσ] at e2
    cases e2
    exact ⟨u,r,.inl ⟨hk,by simp⟩⟩
   ·rw [List.getElem?_set_ne (Ne.symm hj)] at e2
    obtain ⟨u',r',q⟩:=hl j y v' e1 e2 e3
    refine ⟨u',r',?_⟩
    rcases q with ⟨k,e⟩ | ⟨k,c,e,z⟩
    ·refine .inl ⟨k,?_⟩
     have:y≠x:=fun e=>hj (Xz hN e1 (e ▸ hi))
     simp [this,e]
    ·exact .inr ⟨k,c,e,z.sameBut hs (cne y c e)⟩
  ·obtain ⟨w',z⟩:=I.cell y c e
   exact ⟨w',z.sameBut hs (cne y c e)⟩
  ·obtain ⟨e,n,ne,nf,d⟩:=I.pin p hp
   exact ⟨(hs.2 p.1 ne).trans e,n,ne,nf,d⟩
 ·have hfn:X.fn x=true:=by
   rcases hf with z | z
   ·exact z
   ·rw [z] at hk;cases hk
  obtain ⟨c,hc⟩:=I.ok.has x (.inl hk)
  obtain ⟨w',z⟩:=I.cell x c hc
  refine wpAny_storeName_cell I.ok.kind hk hc z (fun h' hc' hs=>?_)
  obtain ⟨oc,hoc,hocd⟩:=id z
  refine h { s with heap:=h' } ⟨I.ok,I.os,I.bare,⟨fun b o e n hb hx=>?_,fun b o e n hb hx=>?_,I.base.free,fun b o e hx=>?_,I.base.tups,I.base.frzs,I.base.tbls⟩,⟨m,hn.sameBut hs (Ne.symm (cne x c hc)),fun j y v' e1 e2 e3=>?_⟩,fun y c' e=>?_,I.free,I.freeC,fun p hp=>?_,tracked ⟨oc,hoc,I.freeC x c hc⟩ hs,by simpa using I.len⟩ ⟨c,hs,.inr hc⟩
  ·exact (hs.2 b (Nat.ne_of_lt (Nat.lt_of_lt_of_le (Heap.lt_size e) (I.ok.cab x c hfn hc)))).trans (I.base.keep b o e n hb hx)
  ·obtain ⟨sl,e1⟩:=I.base.slot b o e n hb hx
   exact ⟨sl,(hs.2 b (Nat.ne_of_lt (Nat.lt_of_lt_of_le (Heap.lt_size e) (I.ok.cab x c hfn hc)))).trans e1⟩
  ·obtain ⟨o',e1⟩:=I.base.there b o e hx
   exact ⟨o',(hs.2 b (Nat.ne_of_lt (Nat.lt_of_lt_of_le (Heap.lt_size e) (I.ok.cab x c hfn hc)))).trans e1⟩
  ·by_cases hj:j=i
   ·subst hj
    rw [hi] at e1;cases e1
    rw [List.getElem?_set_self hiσ] at e2
    cases e2
    exact ⟨u,r,.inr ⟨.inl hk,c,hc,hc'⟩⟩
   ·rw [List.getElem?_set_ne (Ne.symm hj)] at e2
    obtain ⟨u',r',q⟩:=hl j y v' e1 e2 e3
    refine ⟨u',r',?_⟩
    rcases q with q | ⟨k,c',e,z'⟩
    ·exact .inl q
    ·refine .inr ⟨k,c',e,z'.sameBut hs ?_⟩
     rintro rfl
     exact hj (Xz hN e1 (I.ok.inj _ _ _ e hc ▸ hi))
  ·by_cases hcc:c'=c
   ·subst hcc;exact ⟨_,hc'⟩
   ·obtain ⟨w2,z2⟩:=I.cell y c' e
    exact ⟨w2,z2.sameBut hs hcc⟩
  ·obtain ⟨e,n,ne,nf,d⟩:=I.pin p hp
   refine ⟨(hs.2 p.1 ?_).trans e,n,ne,nf,d⟩
   intro q
   rw [q,hoc] at e
   have q':oc=p.2:=Option.some.inj e
   exact d w' (by rw [← q'];exact hocd)
theorem U4 {M:Model} {A:Around} {E:Value→Shared→Prop} {i:Nat} {x:Str} {v:V} {u:Value} {Q:Unit→Shared→Prop} (I:Inv X pins σ H s) (hN:X.N.Nodup) (hi:X.N[i]?=some x) (hx:Loc X.env.scope x) (r:RelV v u)
 (h:∀ s',Inv X pins (σ.set i (some v)) H s'→Q () s') (hf:X.fn x=true∨X.env.scope.names.lookup x=some .local:=by first | exact .inl rfl | exact .inr rfl | assumption):wpAny M A (storeName X.env x u) Q E s :=
 JA I hN hi hx r (fun s' I' _=>h s' I') hf
theorem Inv.call' {s':Shared} {ch:List Addr} (I:Inv X pins σ H s) (ho:s'.os=s.os) (u:Un (frs X.stack) ch H H' s.heap s'.heap) (hok:HOk X.prog X.w H' s'.heap) (hg:AllBare s'.gens)
 (hch:∀ b ∈ ch,(b ∈ X.ex∨X.s₀.heap.objs.size≤b)∧b≠X.env.locals∧(∀ x c,X.env.cells.lookup x=some c→c≠b)∧∀ p ∈ X.pn ++ pins,p.1≠b):Inv X pins σ H' s':=by
 obtain ⟨h',g',d',t',o'⟩:=s'
 have e:o'=s.os:=ho
 subst e
 exact I.call (g':=g') (t':=t') (d':=d') u hok hg hch
end
abbrev XK:=Value→Option Addr→Hp→Prop
abbrev St:=List (Option V)
abbrev VK:=V→Hp→Prop
abbrev TE:=St→Hp→VK→Prop
abbrev TT:=St→Hp→(Bool→Hp→Prop)→Prop
abbrev TA:=St→Hp→(List V→Hp→Prop)→Prop
structure Ends where
 nx:St→Hp→Prop
 rt:VK
 bk:St→Hp→Prop:=fun _ _=>False
 ct:St→Hp→Prop:=fun _ _=>False
abbrev TS:=Ends→St→Hp→Prop
def EP (X:Cx) (pins:List (10:)) (σ:St) (Q:VK) (u:Value) (s':Shared):Prop:=∃ v H',Inv X pins σ H' s'∧RelV v u∧Q v H'
def TP (X:Cx) (pins:List (10:)) (σ:St) (Q:Bool→Hp→Prop) (b:Bool) (s':Shared):Prop:=∃ H',Inv X pins σ H' s'∧Q b H'
def AP (X:Cx) (pins:List (10:)) (σ:St) (Q:List V→Hp→Prop) (us:List Value) (s':Shared):Prop:=∃ vs H',Inv X pins σ H' s'∧Vals vs us∧Q vs H'
def SP (X:Cx) (pins:List (10:)) (D:Ends) (f:Flow) (s':Shared):Prop :=
 match f with
 | .next=>∃ σ' H',Inv X pins σ' H' s'∧D.nx σ' H'
 | .brk=>∃ σ' H',Inv X pins σ' H' s'∧D.bk σ' H'
 | .cont=>∃ σ' H',Inv X pins σ' H' s'∧D.ct σ' H'
 | .ret u=>∃ v σ' H',Inv X pins σ' H' s'∧RelV v u∧D.rt v H'
def PE (X:Cx) (e:Expr) (t:TE):Prop :=
 ∀ (pins:List (10:)) (s:Shared) (σ:St) (H:Hp) (Q:VK),Inv X pins σ H s→t σ H Q→wpAny (6:) X.A (eval e X.env) (EP X pins σ Q) X.xe s
def PT (X:Cx) (e:Expr) (t:TT):Prop :=
 ∀ (pins:List (10:)) (s:Shared) (σ:St) (H:Hp) (Q:Bool→Hp→Prop),Inv X pins σ H s→t σ H Q→wpAny (6:) X.A (isTrue e X.env (eval e X.env)) (TP X pins σ Q) X.xe s
def PW (X:Cx) (e:Expr) (t:TT):Prop :=
 ∀ (whole:Sem Value) (pins:List (10:)) (s:Shared) (σ:St) (H:Hp) (Q:Bool→Hp→Prop),Inv X pins σ H s→t σ H Q→wpAny (6:) X.A (isTrue e X.env whole) (TP X pins σ Q) X.xe s
theorem PW.pt {X:Cx} {e:Expr} {t:TT} (h:PW X e t):PT X e t:=h _
def PA (X:Cx) (es:List Expr) (t:TA):Prop :=
 ∀ (pos:Pos) (pins:List (10:)) (s:Shared) (σ:St) (H:Hp) (Q:List V→Hp→Prop),Inv X pins σ H s→t σ H Q→wpAny (6:) X.A (spliced (backTo pos (starEach es X.env))) (AP X pins σ Q) X.xe s
def PS (X:Cx) (st:Stmt) (t:TS):Prop :=
 ∀ (pins:List (10:)) (s:Shared) (σ:St) (H:Hp) (D:Ends),Inv X pins σ H s→t D σ H→wpAny (6:) X.A (exec st X.env) (SP X pins D) X.xe s
def PSs (X:Cx) (st:List Stmt) (t:TS):Prop :=
 ∀ (pins:List (10:)) (s:Shared) (σ:St) (H:Hp) (D:Ends),Inv X pins σ H s→t D σ H→wpAny (6:) X.A (execs st X.env) (SP X pins D) X.xe s
theorem thn {α:Type} {t:Sem α} {Q Q':α→Shared→Prop} {M:Model} {A:Around} {E:Value→Shared→Prop} {s:Shared} (h:wpAny M A t Q E s) (hQ:∀ a s,Q a s→Q' a s):wpAny M A t Q' E s:=wpAny_mono h hQ fun _ _ x=>x
end L2
namespace L2
open PySem PySem.Spec PyProof.Rows
section
variable {X:Cx}
def ZI (i:Nat):TE:=fun σ H Q=>∃ v,σ[i]?=some (some v)∧Q v H
def tC (v:V):TE:=fun _ H Q=>Q v H
theorem M8 {i:Nat} {x:Str} {pos:Pos} (hN:X.N[i]?=some x) (hv:Vis X.env.scope x) (hd:(49:)=false:=by decide) (hcd:(x == ("__classdict__" : Str))=false:=by decide):PE X (.Name x pos) (ZI i):=by
 intro pins s σ H Q I h
 obtain ⟨v,e,h⟩:=h
 obtain ⟨m,hn,hl⟩:=I.loc
 obtain ⟨u,r,l⟩:=hl i x v hN e hv
 have fin:EP X pins σ Q u s:=⟨v,H,I,r,h⟩
 rcases l with ⟨hk,hm⟩ | ⟨hk,c,hc,hcell⟩
 ·exact wpAny_Name (wpAny_loadName_local I.ok.kind hk hn hm fin) hd
 ·rcases hk with hk | hk
  ·exact wpAny_Name (wpAny_loadName_cell I.ok.kind hk hc hcell fin) hd
  ·exact wpAny_Name (wpAny_loadName_free I.ok.kind hk hc hcell fin hcd) hd
theorem Qb {i j pos}:PE X (.Constant (.int i) j pos) (tC (.int i)):=fun _ _ _ H _ I h=>wpAny_Constant_int ⟨.int i,H,I.tok _,⟨_,rfl⟩,h⟩
theorem Zq {b j pos}:PE X (.Constant (.bool b) j pos) (tC (.bl b)):=fun _ _ _ H _ I h=>Constant_bool ⟨.bl b,H,I,rfl,h⟩
theorem Q5 {j pos}:PE X (.Constant .none j pos) (tC .non):=fun _ _ _ H _ I h=>Constant_none ⟨.non,H,I,rfl,h⟩
theorem Zx {x j pos}:PE X (.Constant (.str x) j pos) (tC (.str x)):=fun _ _ _ H _ I h=>Calls.Constant_str ⟨.str x,H,I.tok _,⟨_,rfl⟩,h⟩
def Gl (X:Cx) (x:Str):Prop:=X.env.kindOf x=some .globalImplicit
theorem JP {E:Value→Shared→Prop} {pins:List (10:)} {s:Shared} {σ:St} {H:Hp} {x:Str} {u:Value} {pos:Pos} {Q:Value→Shared→Prop} (I:Inv X pins σ H s) (hg:Gl X x) (hm:X.mg x=some u) (h:Q u s)
 (hd:(49:)=false:=by decide):wpAny (6:) X.A (eval (.Name x pos) X.env) Q E s :=
 Calls.Name_function_global I.ok.kind hg (Calls.loadGlobal_global (by rw [I.ok.glob];exact I.mod.glob.keeps I.bk) hm h) hd
theorem ZM {E:Value→Shared→Prop} {pins:List (10:)} {s:Shared} {σ:St} {H:Hp} {x:Str} {u:Value} {pos:Pos} {Q:Value→Shared→Prop} (I:Inv X pins σ H s) (hg:Gl X x) (hm:X.mg x=none) (hv:bootBuiltins x=some u) (h:Q u s)
 (hn:x ≠ "__name__" := by decide) (hd:(49:)=false:=by decide):wpAny (6:) X.A (eval (.Name x pos) X.env) Q E s:=by
 obtain ⟨mb,h1,h2⟩:=I.mod.blt
 exact Calls.Name_function_global I.ok.kind hg (Calls.loadGlobal_builtin (by rw [I.ok.glob];exact I.mod.glob.keeps I.bk) hm (by rw [I.ok.blt];exact h1.keeps I.bk) ((h2 x hn).trans hv) h) hd
theorem Mh {x:Str} {v:V} {u:Value} {pos:Pos} (hg:Gl X x) (hm:X.mg x=some u) (r:RelV v u) (hd:(49:)=false:=by decide):PE X (.Name x pos) (tC v) :=
 fun _ _ _ H _ I h=>JP I hg hm ⟨v,H,I,r,h⟩ hd
theorem Zw {x:Str} {v:V} {u:Value} {pos:Pos} (hg:Gl X x) (hm:X.mg x=none) (hv:bootBuiltins x=some u) (r:RelV v u) (hn:x ≠ "__name__" := by decide) (hd:(49:)=false:=by decide):PE X (.Name x pos) (tC v) :=
 fun _ _ _ H _ I h=>ZM I hg hm hv ⟨v,H,I,r,h⟩ hn hd
variable {a b:Expr} {ta tb:TE} {pos:Pos}
def PC (X:Cx) (op:CmpOp) (a b:Expr) (t:TE):Prop :=
 ∀ (pins:List (10:)) (s:Shared) (σ:St) (H:Hp) (Q:VK),Inv X pins σ H s→t σ H Q →
  wpAny (6:) X.A (eval a X.env) (fun v s₁=>wpAny (6:) X.A (eval b X.env) (fun u s₂=>wpAny (6:) X.A (compareOp op v u) (EP X pins σ Q) X.xe s₂) X.xe s₁) X.xe s
theorem Xt (b:Expr) {op:CmpOp} (h:op≠.In) (h2:op≠.NotIn):behindInMarks op b=false:=by
 have e1:(op == CmpOp.In)=false:=by cases op <;> first | rfl | exact absurd rfl h
 have e2:(op == CmpOp.NotIn)=false:=by cases op <;> first | rfl | exact absurd rfl h2
 cases b <;> simp [behindInMarks,e1,e2]
def O2 (ta:TE):TE:=fun σ H Q=>ta σ H fun x H1=>Q (.bl (decide (x=.non))) H1
theorem RelV.none_iff {x:V} {v:Value} (r:RelV x v):(v == Value.none)=decide (x=.non):=by
 cases x with
 | non=>cases r;rfl
 | bl _=>cases r;rfl
 | int _=>obtain ⟨t,rfl⟩:=r;rfl
 | str _=>obtain ⟨t,rfl⟩:=r;rfl
 | byt _=>obtain ⟨t,rfl⟩:=r;rfl
 | flt _=>obtain ⟨t,rfl⟩:=r;rfl
 | ref _=>cases r;rfl
 | ty _=>cases r;rfl
theorem UJ {j pos'} (ha:PE X a ta):PC X .Is a (.Constant .none j pos') (O2 ta):=by
 intro pins s σ H Q I h
 refine thn (ha pins s σ H _ I h) fun v s1 ⟨x,H1,I1,r1,q1⟩=>?_
 exact Constant_none (is_none_gen ⟨.bl _,H1,I1,by rw [r1.none_iff];rfl,q1⟩)
def tB (t:TE):TT:=fun σ H Q=>t σ H fun x H1=>∃ c,x=.bl c∧Q c H1
theorem NW {op:CmpOp} {t:TE} (h:PC X op a b t) (h1:behindInMarks op b=false:=by first | exact Xt _ (18:) (18:) | rfl):PE X (.Compare a [op] [b] pos) t:=fun pins s σ H Q I hw=>wpAny_Compare1 (h pins s σ H Q I hw) h1
theorem YW {op:CmpOp} {t:TE} (h:PC X op a b t) (h1:behindInMarks op b=false:=by first | exact Xt _ (18:) (18:) | rfl):PT X (.Compare a [op] [b] pos) (tB t):=by
 intro pins s σ H Q I hw
 refine wpAny_isTrue_Compare1 (thn (h pins s σ H _ I hw) fun v s1 h1=>thn h1 fun u s2 h2=>thn h2 fun c s3 ⟨x,H1,I1,r1,q1⟩=>?_) h1
 obtain ⟨d,rfl,q⟩:=q1
 cases r1
 exact wpAny_truthy_bool ⟨H1,I1,q⟩
theorem Q0 {e:Expr} {t:TE} (h:PE X e t) (he:∀ whole,isTrue e X.env whole=(do let v ← whole;standAt e.pos;holding [v] (truthy v)):=by intro _;rfl):PT X e (tB t):=by
 intro pins s σ H Q I hw
 refine isTrue_plain (thn (h pins s σ H _ I hw) fun v s1 ⟨x,H1,I1,r1,q1⟩=>?_) (he _)
 obtain ⟨d,rfl,q⟩:=q1
 cases r1
 exact wpAny_truthy_bool ⟨H1,I1,q⟩
variable {tA tB':TT} {rest:List Expr}
def Po (t u:TT):TT:=fun σ H Q=>t σ H fun c H1=>if c=true then u σ H1 Q else Q false H1
def tOr (t u:TT):TT:=fun σ H Q=>t σ H fun c H1=>if c=true then Q true H1 else u σ H1 Q
def Pj (t:TT):TT:=fun σ H Q=>t σ H fun c H1=>Q (!c) H1
theorem pw_and1 (ha:PT X a tA):PW X (.BoolOp .And [a] pos) tA:=by
 intro wh pins s σ H Q I h
 refine isTrue_and (thn (ha pins s σ H Q I h) fun c s1 e=>?_)
 cases c with
 | true=>exact isTrue_and_nil e
 | false=>exact e
theorem pw_or1 (ha:PT X a tA):PW X (.BoolOp .Or [a] pos) tA:=by
 intro wh pins s σ H Q I h
 refine isTrue_or (thn (ha pins s σ H Q I h) fun c s1 e=>?_)
 cases c with
 | false=>exact isTrue_or_nil e
 | true=>exact e
theorem pw_and (ha:PT X a tA) (hb:PW X (.BoolOp .And (b :: rest) pos) tB'):PW X (.BoolOp .And (a :: b :: rest) pos) (Po tA tB'):=by
 intro wh pins s σ H Q I h
 refine isTrue_and (thn (ha pins s σ H _ I h) fun c s1 ⟨H1,I1,q1⟩=>?_)
 cases c with
 | true=>exact hb wh pins s1 σ H1 Q I1 q1
 | false=>exact ⟨H1,I1,q1⟩
theorem pw_or (ha:PT X a tA) (hb:PW X (.BoolOp .Or (b :: rest) pos) tB'):PW X (.BoolOp .Or (a :: b :: rest) pos) (tOr tA tB'):=by
 intro wh pins s σ H Q I h
 refine isTrue_or (thn (ha pins s σ H _ I h) fun c s1 ⟨H1,I1,q1⟩=>?_)
 cases c with
 | true=>exact ⟨H1,I1,q1⟩
 | false=>exact hb wh pins s1 σ H1 Q I1 q1
theorem Zf (ha:PT X a tA):PT X (.UnaryOp .Not a pos) (Pj tA):=by
 intro pins s σ H Q I h
 exact isTrue_not (ha pins s σ H (fun c H1=>Q (!c) H1) I h)
def Ou (ta tb:TE):TE:=fun σ H Q=>ta σ H fun x H1=>∃ c,x=.bl c∧if c=true then tb σ H1 Q else Q (.bl false) H1
def Oc (ta:TE):TE:=fun σ H Q=>ta σ H fun x H1=>∃ c,x=.bl c∧Q (.bl (!c)) H1
theorem UV {op} {t:TE} (h:PE X a t):PE X (.BoolOp op [a] pos) t:=fun pins s σ H Q I hw=>BoolOp_one (h pins s σ H Q I hw)
theorem UI (ha:PE X a ta) (hb:PE X (.BoolOp .And (b :: rest) pos) tb):PE X (.BoolOp .And (a :: b :: rest) pos) (Ou ta tb):=by
 intro pins s σ H Q I h
 refine BoolOp_and (thn (ha pins s σ H _ I h) fun v s1 ⟨x,H1,I1,r1,q1⟩=>?_)
 obtain ⟨c,rfl,q1⟩:=q1
 cases r1
 refine wpAny_truthy_bool ?_
 cases c with
 | true=>exact hb pins s1 σ H1 Q I1 q1
 | false=>exact ⟨.bl false,H1,I1,rfl,q1⟩
theorem G8 (ha:PE X a ta):PE X (.UnaryOp .Not a pos) (Oc ta):=by
 intro pins s σ H Q I h
 refine UnaryOp_ (thn (ha pins s σ H _ I h) fun v s1 ⟨x,H1,I1,r1,q1⟩=>?_)
 obtain ⟨c,rfl,q1⟩:=q1
 cases r1
 exact not_of (wpAny_truthy_bool ⟨.bl (!c),H1,I1,rfl,q1⟩)
def tIf (t:TT) (ta tb:TE):TE:=fun σ H Q=>t σ H fun c H1=>if c=true then ta σ H1 Q else tb σ H1 Q
theorem Gx {c:Expr} (hc:PT X c tA) (ha:PE X a ta) (hb:PE X b tb):PE X (.IfExp c a b pos) (tIf tA ta tb):=by
 intro pins s σ H Q I h
 refine wpAny_IfExp (thn (hc pins s σ H _ I h) fun d s1 ⟨H1,I1,q1⟩=>?_)
 cases d with
 | true=>exact ha pins s1 σ H1 Q I1 q1
 | false=>exact hb pins s1 σ H1 Q I1 q1
end
end L2
namespace L2
open PySem PySem.Spec PyProof.Rows
def SqL (K:PySem.W.Frag) (H:Hp) (a:Addr) (xs:List V):Prop :=
 Rd H a (.lst xs) ∨
  ∃ (o:Obj) (its:Array Value) (n:Nat),K.lookup a=some o∧o.cls=.type "list" ∧ o.dict=none∧o.data=.seq its n∧its.size≤sizeLine∧Vals xs its.toList
def SqT (K:PySem.W.Frag) (H:Hp) (a:Addr) (xs:List V):Prop :=
 Rd H a (.tup xs) ∨
  ∃ (o:Obj) (its:Array Value) (n:Nat),K.lookup a=some o∧o.cls=.type "tuple" ∧ o.data=.seq its n∧its.size≤sizeLine∧Vals xs its.toList
def Pk:Value→Option V
 | .none=>some .non
 | .bool b=>some (.bl b)
 | .int i _=>some (.int i)
 | .str x _=>some (.str x)
 | .bytes b _=>some (.byt b)
 | .float b _=>some (.flt b)
 | .ref a=>some (.ref a)
 | .type n=>some (.ty n)
 | _=>none
theorem RelV.abs {x:V} {u:Value} (r:RelV x u):Pk u=some x:=by
 cases x with
 | non=>cases r;rfl
 | bl _=>cases r;rfl
 | int _=>obtain ⟨t,rfl⟩:=r;rfl
 | str _=>obtain ⟨t,rfl⟩:=r;rfl
 | byt _=>obtain ⟨t,rfl⟩:=r;rfl
 | flt _=>obtain ⟨t,rfl⟩:=r;rfl
 | ref _=>cases r;rfl
 | ty _=>cases r;rfl
theorem RelV.inj {x y:V} {u:Value} (r:RelV x u) (q:RelV y u):x=y:=Option.some.inj (r.abs.symm.trans q.abs)
theorem Vals.inj:∀ {xs ys:List V} {us:List Value},Vals xs us→Vals ys us→xs=ys
 | _,_,_,.nil,.nil=>rfl
 | _,_,_,.cons r t,.cons r' t'=>by rw [r.inj r',Vals.inj t t']
section
variable {X:Cx} {pins:List (10:)} {σ:St} {H:Hp} {s:Shared} {a:Addr} {xs ys:List V}
theorem SqL.of {K:PySem.W.Frag} (h:H a=some (.lst xs)):SqL K H a xs:=.inl (.inl h)
theorem SqT.of {K:PySem.W.Frag} (h:H a=some (.tup xs)):SqT K H a xs:=.inl (.inl h)
theorem Inv.list (I:Inv X pins σ H s) (h:SqL X.K H a xs):∃ its:List Value,Vals xs its∧PlainL s.heap a its.toArray∧xs.length≤sizeLine:=by
 rcases h with h | ⟨o,its,n,hk,hc,hd,hs,hz,r⟩
 ·obtain ⟨z,its,n,r,e⟩:=h.ok I.hok
  exact ⟨its,r,⟨_,n,e,rfl,rfl,rfl⟩,z⟩
 ·refine ⟨its.toList,r,⟨o,n,I.kIn a o hk,hc,hd,by simpa using hs⟩,?_⟩
  have e:=r.length
  simp only [Array.length_toList] at e
  lia
theorem Inv.tuple (I:Inv X pins σ H s) (h:SqT X.K H a xs):∃ its:List Value,Vals xs its∧IsTup s.heap a its.toArray∧xs.length≤sizeLine:=by
 rcases h with h | ⟨o,its,n,hk,hc,hs,hz,r⟩
 ·obtain ⟨z,its,r,p⟩:=h.ok I.hok
  exact ⟨its,r,p,z⟩
 ·refine ⟨its.toList,r,⟨o,I.kIn a o hk,hc,n,by simpa using hs⟩,?_⟩
  have e:=r.length
  simp only [Array.length_toList] at e
  lia
theorem Inv.list_inj (I:Inv X pins σ H s) (h:SqL X.K H a xs) (h':SqL X.K H a ys):xs=ys:=by
 obtain ⟨its,r,⟨o,n,e,_,_,d⟩,_⟩:=I.list h
 obtain ⟨its',r',⟨o',n',e',_,_,d'⟩,_⟩:=I.list h'
 rw [e] at e';cases e'
 rw [d] at d'
 injection d' with d1 _
 have:its=its':=by simpa using congrArg Array.toList d1
 subst this
 exact r.inj r'
theorem Inv.tuple_inj (I:Inv X pins σ H s) (h:SqT X.K H a xs) (h':SqT X.K H a ys):xs=ys:=by
 obtain ⟨its,r,⟨o,e,_,n,d⟩,_⟩:=I.tuple h
 obtain ⟨its',r',⟨o',e',_,n',d'⟩,_⟩:=I.tuple h'
 rw [e] at e';cases e'
 rw [d] at d'
 injection d' with d1 _
 have:its=its':=by simpa using congrArg Array.toList d1
 subst this
 exact r.inj r'
end
abbrev Cx.wish (X:Cx) (E:Value→Shared→Prop):Cx:={ X with xe:=E }
abbrev Cx.nox (X:Cx):Cx:=X.wish fun _ _=>False
theorem Cx.Ok.wish {X:Cx} (ok:X.Ok) (E:Value→Shared→Prop):(X.wish E).Ok :=
 ⟨ok.mod,ok.kind,ok.glob,ok.blt,ok.above,ok.inj,ok.has,ok.cab,ok.hd,ok.frames,ok.stk,ok.exf,ok.bs,ok.bsz,ok.noex,ok.exfs,ok.funs,ok.frf⟩
theorem Cx.Ok.unwish {X:Cx} {E:Value→Shared→Prop} (ok:(X.wish E).Ok):X.Ok :=
 ⟨ok.mod,ok.kind,ok.glob,ok.blt,ok.above,ok.inj,ok.has,ok.cab,ok.hd,ok.frames,ok.stk,ok.exf,ok.bs,ok.bsz,ok.noex,ok.exfs,ok.funs,ok.frf⟩
section
variable {X:Cx} {pins:List (10:)} {σ:St} {H:Hp} {s:Shared} {E:Value→Shared→Prop}
theorem Inv.wish (I:Inv X pins σ H s) (E:Value→Shared→Prop):Inv (X.wish E) pins σ H s:=⟨I.ok.wish E,I.os,I.bare,I.base,I.loc,I.cell,I.free,I.freeC,I.pin,I.hok,I.len⟩
theorem Inv.unwish (I:Inv (X.wish E) pins σ H s):Inv X pins σ H s:=⟨I.ok.unwish,I.os,I.bare,I.base,I.loc,I.cell,I.free,I.freeC,I.pin,I.hok,I.len⟩
theorem SP.unwish {D:Ends} {f:Flow} {s':Shared} (h:SP (X.wish E) pins D f s'):SP X pins D f s':=by
 cases f with
 | next=>obtain ⟨σ',H',I,q⟩:=h;exact ⟨σ',H',I.unwish,q⟩
 | brk=>obtain ⟨σ',H',I,q⟩:=h;exact ⟨σ',H',I.unwish,q⟩
 | cont=>obtain ⟨σ',H',I,q⟩:=h;exact ⟨σ',H',I.unwish,q⟩
 | ret u=>obtain ⟨v,σ',H',I,r,q⟩:=h;exact ⟨v,σ',H',I.unwish,r,q⟩
theorem PSs.nox {st:List Stmt} {t:TS} (h:PSs X.nox st t):PSs X st t:=fun pins s σ H D I hw =>
 wpAny_mono (h pins s σ H D (I.wish _) hw) (fun _ _ q=>q.unwish) fun _ _ z=>False.elim z
end
section
variable {X:Cx} {st:Stmt} {rest:List Stmt} {t u:TS} {e:Expr} {te:TE} {pos:Pos}
def N7:TS:=fun D σ H=>D.nx σ H
def Pg (t u:TS):TS:=fun D σ H=>t { D with nx:=u D } σ H
theorem Qu:PSs X [] N7:=fun _ _ σ H _ I h=>wpAny_execs_nil ⟨σ,H,I,h⟩
theorem Qe (h1:PS X st t) (h2:PSs X rest u):PSs X (st :: rest) (Pg t u):=by
 intro pins s σ H D I h
 refine wpAny_execs_cons (thn (h1 pins s σ H { D with nx:=u D } I h) fun f s1 q=>?_)
 cases f with
 | next =>
  obtain ⟨σ',H',I',q⟩:=q
  exact h2 pins s1 σ' H' D I' q
 | ret v=>exact q
 | brk=>exact q
 | cont=>exact q
theorem Qh (h1:PS X st t):PSs X [st] t:=by
 intro pins s σ H D I h
 refine wpAny_execs_cons (thn (h1 pins s σ H D I h) fun f s1 q=>?_)
 cases f with
 | next=>exact wpAny_execs_nil q
 | ret v=>exact q
 | brk=>exact q
 | cont=>exact q
theorem Inv.quiet {pins:List (10:)} {σ:St} {H:Hp} {s:Shared} (I:Inv X pins σ H s):interactive X.env=false:=by simp [interactive,I.ok.kind]
def OA (te:TE):TS:=fun D σ H=>te σ H fun _ H1=>D.nx σ H1
theorem QJ (he:PE X e te) (hs:swapsWith e none pos.line X.env=pure false:=by rfl):PS X (.Expr e pos) (OA te):=by
 intro pins s σ H D I h
 exact wpAny_Expr_any (thn (he pins s σ H _ I h) fun v s1 ⟨x,H1,I1,r1,q1⟩=>⟨σ,H1,I1,q1⟩) I.quiet hs
def O5 (te:TE):TS:=fun D σ H=>te σ H D.rt
theorem Qo (he:PE X e te):PS X (.Return (some e) pos) (O5 te):=by
 intro pins s σ H D I h
 exact wpAny_Return_some (thn (he pins s σ H _ I h) fun v s1 ⟨x,H1,I1,r1,q1⟩=>⟨x,σ,H1,I1,r1,q1⟩)
def N3:TS:=fun D _ H=>D.rt .non H
theorem W1:PS X (.Return none pos) N3:=fun _ _ σ H _ I h=>wpAny_Return_none ⟨.non,σ,H,I,rfl,h⟩
def Pa (c:TT) (t u:TS):TS:=fun D σ H=>c σ H fun b H1=>if b=true then t D σ H1 else u D σ H1
theorem QF {c:Expr} {a b:List Stmt} {tc:TT} (hc:PT X c tc) (ha:PSs X a t) (hb:PSs X b u):PS X (.If c a b pos) (Pa tc t u):=by
 intro pins s σ H D I h
 refine wpAny_If (thn (hc pins s σ H _ I h) fun d s1 ⟨H1,I1,q1⟩=>?_)
 cases d with
 | true=>exact ha pins s1 σ H1 D I1 q1
 | false=>exact hb pins s1 σ H1 D I1 q1
def Nf:TS:=fun _ _ _=>False
theorem Zn {sts:List Stmt}:PSs X sts Nf:=fun _ _ _ _ _ _ h=>h.elim
end
abbrev TG:=V→St→Hp→(St→Hp→Prop)→Prop
abbrev TGs:=List V→St→Hp→(St→Hp→Prop)→Prop
def PG (X:Cx) (target:Expr) (t:TG):Prop :=
 ∀ (pins:List (10:)) (s:Shared) (σ:St) (H:Hp) (v:V) (u:Value) (Q:St→Hp→Prop),Inv X pins σ H s→RelV v u→t v σ H Q →
  wpAny (6:) X.A (assign target X.env u) (fun _ s'=>∃ σ' H',Inv X pins σ' H' s'∧Q σ' H') X.xe s
def PGs (X:Cx) (ts:List Expr) (t:TGs):Prop :=
 ∀ (pins:List (10:)) (s:Shared) (σ:St) (H:Hp) (vs:List V) (us:List Value) (Q:St→Hp→Prop),Inv X pins σ H s→Vals vs us→t vs σ H Q →
  wpAny (6:) X.A (assignInOrder ((assignEach ts X.env).map (·.2)) us) (fun _ s'=>∃ σ' H',Inv X pins σ' H' s'∧Q σ' H') X.xe s
abbrev Nq:=V→V→V→Hp→(Hp→Prop)→Prop
def N9 (X:Cx) (t:Nq):Prop :=
 ∀ (pins:List (10:)) (s:Shared) (σ:St) (H:Hp) (o i v:V) (ov iv u:Value) (Q:Hp→Prop),Inv X pins σ H s→RelV o ov→RelV i iv→RelV v u→t o i v H Q →
  wpAny (6:) X.A (setItem ov iv u) (fun _ s'=>∃ H',Inv X pins σ H' s'∧Q H') X.xe s
abbrev TIp:=V→V→Hp→VK→Prop
def PIp (X:Cx) (op:Operator) (t:TIp):Prop :=
 ∀ (pins:List (10:)) (s:Shared) (σ:St) (H:Hp) (x y:V) (v u:Value) (Q:VK),Inv X pins σ H s→RelV x v→RelV y u→t x y H Q →
  wpAny (6:) X.A (inplaceOp op v u) (EP X pins σ Q) X.xe s
section
variable {X:Cx} {pos:Pos}
def Zt (i:Nat):TG:=fun v σ H Q=>Q (σ.set i (some v)) H
theorem Qq {i:Nat} {x:Str} (hN:X.N.Nodup) (hi:X.N[i]?=some x) (hx:Loc X.env.scope x) (hf:X.fn x=true∨X.env.scope.names.lookup x=some .local:=by first | exact .inl rfl | exact .inr rfl | assumption):PG X (.Name x pos) (Zt i):=by
 intro pins s σ H v u Q I r h
 exact wpAny_assign_Name (U4 I hN hi hx r (fun s' I'=>⟨_,H,I',h⟩) hf)
def L7:TGs:=fun vs σ H Q=>vs=[]∧Q σ H
def UL (t:TG) (u:TGs):TGs:=fun vs σ H Q=>∃ v r,vs=v :: r∧t v σ H fun σ' H'=>u r σ' H' Q
theorem QX:PGs X [] L7:=by
 intro pins s σ H vs us Q I r h
 obtain ⟨e,h⟩:=h
 subst e
 cases r
 exact assignInOrder_nil ⟨σ,H,I,h⟩
theorem Qw {e:Expr} {es:List Expr} {t:TG} {u:TGs} (h1:PG X e t) (h2:PGs X es u)
 (hs:(assignEach (e :: es) X.env).map (·.2)=assign e X.env :: (assignEach es X.env).map (·.2):=by rfl):PGs X (e :: es) (UL t u):=by
 intro pins s σ H vs us Q I r h
 obtain ⟨v,vr,e1,h⟩:=h
 subst e1
 cases r with
 | cons r rr =>
  rw [hs]
  refine assignInOrder_cons (thn (h1 pins s σ H _ _ _ I r h) fun _ s1 ⟨σ1,H1,I1,q1⟩=>?_)
  exact h2 pins s1 σ1 H1 _ _ Q I1 rr q1
def L4 (K:PySem.W.Frag) (n:Nat) (t:TGs):TG:=fun v σ H Q=>∃ a xs,v=.ref a∧SqT K H a xs∧xs.length=n∧t xs σ H Q
theorem Zb {es:List Expr} {k:Nat} {t:TGs} {n:Nat} (hc:X.calm=true) (h:PGs X es t)
 (hn:(assignEach es X.env).length=n:=by rfl) (hst:(assignEach es X.env).findIdx? (·.1)=none:=by rfl):PG X (.Tuple es k pos) (L4 X.K n t):=by
 intro pins s σ H v u Q I r hw
 obtain ⟨a,xs,e1,hq,hl,hw⟩:=hw
 subst e1
 cases r
 obtain ⟨its,rv,ht,hz⟩:=I.tuple hq
 refine assign_Tuple_tuple (I.ok.hd hc) ht (by simp [hn,← hl,rv.length]) hst fun h' hx=>?_
 have I1:Inv X pins σ H { s with heap:=h' }:=I.kept (t':=s.toks) fun b o e=>hx b o (Nat.ne_of_lt (Heap.lt_size e)) e
 exact h pins _ σ H xs _ Q I1 (by simpa using rv) hw
def Pr (to ti:TE) (t:Nq):TG:=fun v σ H Q=>to σ H fun o H1=>ti σ H1 fun i H2=>t o i v H2 fun H3=>Q σ H3
theorem NG {o i:Expr} {to ti:TE} {t:Nq} (ho:PE X o to) (hi:PE X i ti) (hs:N9 X t)
 (ha:∀ v,assign (.Subscript o i pos) X.env v=(do
  let ov ← holding [v] (eval o X.env)
  let iv ← holding [v,ov] (eval i X.env)
  standAt pos
  holding [v,ov,iv] (setItem ov iv v)
  release [v,ov,iv] []):=by intro _;rfl):PG X (.Subscript o i pos) (Pr to ti t):=by
 intro pins s σ H v u Q I r h
 rw [ha]
 refine wpAny_bind (wpAny_holding (thn (ho pins s σ H _ I h) fun ov s1 ⟨x,H1,I1,r1,q1⟩=>?_))
 refine wpAny_bind (wpAny_holding (thn (hi pins s1 σ H1 _ I1 q1) fun iv s2 ⟨y,H2,I2,r2,q2⟩=>?_))
 refine wpAny_bind (wpAny_standAt (wpAny_bind (wpAny_holding (thn (hs pins s2 σ H2 x y v ov iv u _ I2 r1 r2 r q2) fun _ s3 ⟨H3,I3,q3⟩=>?_))))
 exact wpAny_release ⟨σ,H3,I3,q3⟩
def M6 (te:TE) (g:TG):TS:=fun D σ H=>te σ H fun x H1=>g x σ H1 D.nx
theorem JM {tg e:Expr} {te:TE} {g:TG} (he:PE X e te) (hg:PG X tg g) (hs:swapsWithSole [tg] e pos.line X.env=pure false:=by rfl) (hw:swappedStores [tg] e X.env=pure none:=by rfl)
 (h1:(assignEach [tg] X.env).map (·.2)=[assign tg X.env]:=by rfl):PS X (.Assign [tg] e pos) (M6 te g):=by
 intro pins s σ H D I h
 refine wpAny_Assign_stores (thn (he pins s σ H _ I h) fun v s1 ⟨x,H1,I1,r1,q1⟩=>?_) hs hw
 rw [h1]
 exact thn (hg pins s1 σ H1 x v _ I1 r1 q1) fun _ s2 q=>q
theorem Ql {i:Nat} {x:Str} {e:Expr} {te:TE} {pos':Pos} (hN:X.N.Nodup) (hi:X.N[i]?=some x) (hx:Loc X.env.scope x) (he:PE X e te) (hs:swapsWith e (some (.Name x pos')) pos.line X.env=pure false:=by rfl) (hf:X.fn x=true∨X.env.scope.names.lookup x=some .local:=by first | exact .inl rfl | exact .inr rfl | assumption) :
 PS X (.Assign [.Name x pos'] e pos) (M6 te (Zt i)):=by
 intro pins s σ H D I h
 refine wpAny_Assign_Name (thn (he pins s σ H _ I h) fun v s1 ⟨y,H1,I1,r1,q1⟩=>?_) hs
 exact U4 I1 hN hi hx r1 (fun s2 I2=>⟨_,H1,I2,q1⟩) hf
def O0 (i:Nat) (te:TE) (ti:TIp):TS:=fun D σ H=>∃ x,σ[i]?=some (some x)∧te σ H fun y H1=>ti x y H1 fun z H2=>D.nx (σ.set i (some z)) H2
theorem Nc {i:Nat} {x:Str} {e:Expr} {te:TE} {op:Operator} {ti:TIp} {pos':Pos} (hN:X.N.Nodup) (hi:X.N[i]?=some x) (hx:Loc X.env.scope x) (he:PE X e te) (ho:PIp X op ti) (hf:X.fn x=true∨X.env.scope.names.lookup x=some .local:=by first | exact .inl rfl | exact .inr rfl | assumption) :
 PS X (.AugAssign (.Name x pos') op e pos) (O0 i te ti):=by
 intro pins s σ H D I h
 obtain ⟨v,e1,h⟩:=h
 obtain ⟨m,hn,hl⟩:=I.loc
 have vis:Vis X.env.scope x:=by rcases hx with k | k;exact .inl k;exact .inr (.inl k)
 obtain ⟨u,r,l⟩:=hl i x v hi e1 vis
 refine wpAny_AugAssign_Name ?_
 have go:wpAny (6:) X.A (eval e X.env) (fun w s₂=>wpAny (6:) X.A (inplaceOp op u w) (fun r s₃=>wpAny (6:) X.A (storeName X.env x r) (fun _=>SP X pins D .next) X.xe s₃) X.xe s₂) X.xe s:=by
  refine thn (he pins s σ H _ I h) fun w s1 ⟨y,H1,I1,r1,q1⟩=>?_
  refine thn (ho pins s1 σ H1 v y u w _ I1 r r1 q1) fun z s2 ⟨zv,H2,I2,r2,q2⟩=>?_
  exact U4 I2 hN hi hx r2 (fun s3 I3=>⟨_,H2,I3,q2⟩) hf
 rcases l with ⟨hk,hm⟩ | ⟨hk,c,hc,hcell⟩
 ·exact wpAny_loadName_local I.ok.kind hk hn hm go
 ·rcases hk with hk | hk
  ·exact wpAny_loadName_cell I.ok.kind hk hc hcell go
  ·rcases hx with k | k
   ·have:X.env.scope.names.lookup x=some .free:=hk
    rw [k] at this;cases this
   ·have:X.env.scope.names.lookup x=some .free:=hk
    rw [k] at this;cases this
def ipI (f:Int→Int→Int):TIp:=fun x y H Q=>∃ i j,x=.int i∧y=.int j∧Q (.int (f i j)) H
theorem Ni:PIp X .Add (ipI fun i j=>i + j):=by
 intro pins s σ H x y v u Q I r1 r2 h
 obtain ⟨i,j,e1,e2,q⟩:=h
 subst e1;subst e2
 obtain ⟨t,rfl⟩:=r1
 obtain ⟨t',rfl⟩:=r2
 exact iadd_int ⟨.int _,H,I.tok _,⟨_,rfl⟩,q⟩
end
section
variable {X:Cx} {pos:Pos}
def V9 (c:TT) (tb:TS):TS:=fun D σ H=>∃ W:Nat→St→Hp→Prop,(∃ m,W m σ H)∧∀ m σ H,W m σ H →
 c σ H fun b H1=>if b=true then ∃ N:St→Hp→Prop,(∀ σ' H',N σ' H'→∃ m',m' < m∧W m' σ' H')∧tb { D with nx:=N,ct:=N,bk:=D.nx } σ H1 else D.nx σ H1
theorem YE {c:Expr} {body:List Stmt} {tc:TT} {tb:TS} (hp:PassesOwn (6:) X.A X.env X.xe) (hc:PT X c tc) (hb:PSs X body tb):PS X (.While c body [] pos) (V9 tc tb):=by
 intro pins s σ H D I h
 obtain ⟨W,⟨m0,w0⟩,turn⟩:=h
 refine wpAny_While (codeAny_whileLoop (fun n s'=>∃ σ' H',Inv X pins σ' H' s'∧W n σ' H') ?_ m0 ⟨σ,H,I,w0⟩)
 rintro n s1 ⟨σ1,H1,I1,w1⟩
 refine wpAny_passesOwn hp (thn (hc pins s1 σ1 H1 _ I1 (turn n σ1 H1 w1)) fun b s2 ⟨H2,I2,q2⟩=>?_)
 cases b with
 | true =>
  obtain ⟨N,hN,q2⟩:=q2
  rw [if_pos rfl]
  refine wpAny_passesOwn hp (thn (hb pins s2 σ1 H2 _ I2 q2) fun f s3 q3=>?_)
  cases f with
  | next =>
   obtain ⟨σ3,H3,I3,n3⟩:=q3
   obtain ⟨m',hm,w3⟩:=hN σ3 H3 n3
   exact ⟨m',hm,σ3,H3,I3,w3⟩
  | cont =>
   obtain ⟨σ3,H3,I3,n3⟩:=q3
   obtain ⟨m',hm,w3⟩:=hN σ3 H3 n3
   exact ⟨m',hm,σ3,H3,I3,w3⟩
  | brk=>exact q3
  | ret v=>exact q3
 | false =>
  rw [if_neg Bool.false_ne_true]
  exact wpAny_execs_nil ⟨σ1,H2,I2,q2⟩
end
structure It where
 go:Nat→Hp→Prop
 yld:Nat→Hp→V→Hp→Prop
 stop:Nat→Hp→Prop
def Yz (X:Cx) (pins:List (10:)) (H:Hp) (b:Addr):Prop :=
 H b=none∧b≠X.env.locals∧b ∉ X.fs∧(b ∈ X.ex∨X.s₀.heap.objs.size≤b)∧(∀ x c,X.env.cells.lookup x=some c→c≠b)∧∀ p ∈ X.pn ++ pins,p.1≠b
theorem Inv.fpOk {X:Cx} {pins:List (10:)} {σ:St} {H H':Hp} {s:Shared} {b:Addr} (I:Inv X pins σ H s) (hb:s.heap.objs.size≤b) (hn:H' b=none):Yz X pins H' b:=by
 refine ⟨hn,Nat.ne_of_gt (Nat.lt_of_lt_of_le I.lt hb),I.nofs hb,.inr (Nat.le_trans I.sz hb),fun x c e z=>?_,fun p hp z=>?_⟩
 ·obtain ⟨v,q⟩:=I.cell x c e
  exact absurd (Nat.lt_of_lt_of_le q.lt (by rw [z];exact hb)) (Nat.lt_irrefl _)
 ·exact absurd (Nat.lt_of_lt_of_le (Heap.lt_size (I.pin p hp).1) (by rw [z];exact hb)) (Nat.lt_irrefl _)
structure Turn (P:Program) (w:World) (K:PySem.W.Frag) (tg:Expr) (J:It) (fp:List Addr) (it:Addr) (tn:Nat→Heap→Prop):Prop where
 mem:it ∈ fp
 obj:∀ i h,tn i h→∀ b ∈ fp,∃ o,h.get? b=some o∧∀ v,o.data≠.cell v
 keep:∀ i h h',tn i h→(∀ b ∈ fp,∀ o,h.get? b=some o→h'.get? b=some o)→tn i h'
 item:∀ (X:Cx),X.prog=P→X.w=w→X.K=K→X.calm=true→∀ (i:Nat) (pins:List (10:)) (s:Shared) (σ:St) (H:Hp) (E:Value→Shared→Prop),Inv X pins σ H s→(∀ b ∈ fp,Yz X pins H b)→tn i s.heap→J.go i H →
  wpAny (model P w) X.A (pyNext (.ref it)) (fun r s1=>∃ u,r=some u ∧
   wpAny (model P w) X.A (letOwnedTupleGo tg (.ref it) u) (fun _ s2=>∃ x H',Inv X pins σ H' s2∧RelV x u∧J.yld i H x H'∧tn (i + 1) s2.heap∧∀ b ∈ fp,H' b=none) E s1) E s
 done:∀ (X:Cx),X.prog=P→X.w=w→X.K=K→X.calm=true→∀ (i:Nat) (pins:List (10:)) (s:Shared) (σ:St) (H:Hp) (E:Value→Shared→Prop),Inv X pins σ H s→(∀ b ∈ fp,Yz X pins H b)→tn i s.heap→J.stop i H →
  wpAny (model P w) X.A (pyNext (.ref it)) (fun r s1=>r=none∧Inv X pins σ H s1) E s
 self:∀ (A:Around) (i:Nat) (s:Shared) (Q:Value→Shared→Prop) (E:Value→Shared→Prop),tn i s.heap→Q (.ref it) s→wpAny (model P w) A (pyIter (.ref it)) Q E s
abbrev TI:=St→Hp→(It→Hp→Prop)→Prop
def PIE (X:Cx) (pins:List (10:)) (σ:St) (tg:Expr) (R:It→Hp→Prop) (itv:Value) (s2:Shared):Prop :=
 ∃ (it:Addr) (fp:List Addr) (tn:Nat→Heap→Prop) (J:It) (H':Hp),itv=.ref it∧Inv X pins σ H' s2∧Turn X.prog X.w X.K tg J fp it tn∧tn 0 s2.heap∧(∀ b ∈ fp,Yz X pins H' b)∧R J H'
def PI (X:Cx) (tg iter:Expr) (wi:TI):Prop :=
 ∀ (pins:List (10:)) (s:Shared) (σ:St) (H:Hp) (R:It→Hp→Prop),Inv X pins σ H s→wi σ H R →
  wpAny (6:) X.A (eval iter X.env) (fun v s1=>wpAny (6:) X.A (pyIter v) (PIE X pins σ tg R) X.xe s1) X.xe s
theorem Xm {M:Model} {A:Around} {E:Value→Shared→Prop} {s:Shared} {tg:Expr} {it:Addr} {u:Value} {o:Obj} {n:String} {vs:Array Value} {Q:Unit→Shared→Prop} (ho:s.heap.get? it=some o) (hc:o.cls=.type n) (hd:o.data=.fields vs)
 (hn:["enumerate", "zip", "dict_itemiterator", "dict_reverseitemiterator", "odict_iterator", "itertools.zip_longest", "itertools.pairwise"].contains n=false) (hQ:Q () s):wpAny M A (letOwnedTupleGo tg (.ref it) u) Q E s:=by
 unfold letOwnedTupleGo
 cases tg <;> first
  | exact wpAny_pure hQ
  | (cases u <;> first
   | exact wpAny_pure hQ
   | (refine wpAny_bind (wpAny_load ho ?_)
      rw [hc,hd]
      show wpAny M A (if (["enumerate", "zip", "dict_itemiterator", "dict_reverseitemiterator", "odict_iterator", "itertools.zip_longest", "itertools.pairwise"].contains n && vs[0]? == some (rawInt _))=true then _ else _) Q E s
      rw [if_neg (by intro h;rw [hn,Bool.false_and] at h;cases h)]
      exact wpAny_pure hQ))
def Itl (K:PySem.W.Frag) (a:Addr):It :=
 ⟨fun i H=>∃ xs x,SqL K H a xs∧xs[i]?=some x,fun i H x H'=>H'=H∧∀ xs,SqL K H a xs→xs[i]?=some x,fun i H=>∃ xs,SqL K H a xs∧xs.length≤i⟩
def Itt (K:PySem.W.Frag) (a:Addr):It :=
 ⟨fun i H=>∃ xs x,SqT K H a xs∧xs[i]?=some x,fun i H x H'=>H'=H∧∀ xs,SqT K H a xs→xs[i]?=some x,fun i H=>∃ xs,SqT K H a xs∧xs.length≤i⟩
def Itr (lo:Int) (n:Nat):It:=⟨fun i _=>i < n,fun i H x H'=>H'=H∧x=.int (lo + i),fun i _=>n≤i⟩
theorem Vo {P:Program} {w:World} {K:PySem.W.Frag} {tg:Expr} (a it:Addr):Turn P w K tg (Itl K a) [it] it (fun i h=>h.IsListIter it a i) where
 mem:=by simp
 obj:=fun i h st b hb=>by
  have e:b=it:=by simpa using hb
  subst e
  obtain ⟨o,e,c,d⟩:=st
  exact (48:)
 keep:=fun i h h' st k=>st.at fun o e=>k it (27:) o e
 item:=by
  intro X hP hw hK hc i pins s σ H E I hf st hg
  subst hP hw hK
  obtain ⟨xs,x,hq,hx⟩:=hg
  obtain ⟨its,rv,p,hz⟩:=I.list hq
  obtain ⟨u,hu,ru⟩:=rv.get hx
  obtain ⟨f0,f1,f2,f3,f4,f5⟩:=hf it (27:)
  refine wpAny_pyNext_list_item st p.isList (x:=u) (by simpa using hu) fun h' st' sb=>?_
  have I1:Inv X pins σ H { s with heap:=h' }:=I.turned (t':=s.toks) (fun b o hb e=>(sb.2 b hb).trans e) f0 f1 f3 f4 f5
  obtain ⟨o,e,c,d⟩:=id st'
  exact ⟨u,rfl,Xm (s:={ s with heap:=h' }) e c d (18:) ⟨x,H,I1,ru,⟨rfl,fun ys hy=>by rw [I.list_inj hy hq];exact hx⟩,st',fun b hb=>(hf b hb).1⟩⟩
 done:=by
  intro X hP hw hK hc i pins s σ H E I hf st hg
  subst hP hw hK
  obtain ⟨xs,hq,hx⟩:=hg
  obtain ⟨its,rv,p,hz⟩:=I.list hq
  obtain ⟨f0,f1,f2,f3,f4,f5⟩:=hf it (27:)
  have hl:=rv.length
  exact wpAny_pyNext_list_end (I.ok.hd hc) st p.isList (by simp;lia) fun h' eb=>(36:)
 self:=fun _ _ _ _ _ st h=>wpAny_pyIter_listiter st h
theorem Wx {P:Program} {w:World} {K:PySem.W.Frag} {tg:Expr} (a it:Addr):Turn P w K tg (Itt K a) [it] it (fun i h=>h.IsTupleIter it a i) where
 mem:=by simp
 obj:=fun i h st b hb=>by
  have e:b=it:=by simpa using hb
  subst e
  obtain ⟨o,e,c,d⟩:=st
  exact (48:)
 keep:=fun i h h' st k=>st.at fun o e=>k it (27:) o e
 item:=by
  intro X hP hw hK hc i pins s σ H E I hf st hg
  subst hP hw hK
  obtain ⟨xs,x,hq,hx⟩:=hg
  obtain ⟨its,rv,p,hz⟩:=I.tuple hq
  obtain ⟨u,hu,ru⟩:=rv.get hx
  obtain ⟨f0,f1,f2,f3,f4,f5⟩:=hf it (27:)
  refine wpAny_pyNext_tuple_item st (show s.heap.IsTuple a its.toArray from p) (x:=u) (by simpa using hu) fun h' st' sb=>?_
  have I1:Inv X pins σ H { s with heap:=h' }:=I.turned (t':=s.toks) (fun b o hb e=>(sb.2 b hb).trans e) f0 f1 f3 f4 f5
  obtain ⟨o,e,c,d⟩:=id st'
  exact ⟨u,rfl,Xm (s:={ s with heap:=h' }) e c d (18:) ⟨x,H,I1,ru,⟨rfl,fun ys hy=>by rw [I.tuple_inj hy hq];exact hx⟩,st',fun b hb=>(hf b hb).1⟩⟩
 done:=by
  intro X hP hw hK hc i pins s σ H E I hf st hg
  subst hP hw hK
  obtain ⟨xs,hq,hx⟩:=hg
  obtain ⟨its,rv,p,hz⟩:=I.tuple hq
  obtain ⟨f0,f1,f2,f3,f4,f5⟩:=hf it (27:)
  have hl:=rv.length
  exact wpAny_pyNext_tuple_end (I.ok.hd hc) st (show s.heap.IsTuple a its.toArray from p) (by simp;lia) fun h' eb=>(36:)
 self:=fun _ _ _ _ _ st h=>wpAny_pyIter_tupleiter st h
theorem WC {P:Program} {w:World} {K:PySem.W.Frag} {tg:Expr} (it:Addr) (lo:Int) (n:Nat):Turn P w K tg (Itr lo n) [it] it (fun i h=>IsRangeIter h it (lo + (i:Nat) * 1) ((n:Int) - (i:Nat)) 1) where
 mem:=by simp
 obj:=fun i h st b hb=>by
  have e:b=it:=by simpa using hb
  subst e
  exact ⟨_,st,fun v z=>by
   have z':Data.fields _=Data.cell v:=z
   cases z'⟩
 keep:=fun i h h' st k=>k it (27:) _ st
 item:=by
  intro X hP hw hK hc i pins s σ H E I hf st hg
  subst hP hw hK
  obtain ⟨f0,f1,f2,f3,f4,f5⟩:=hf it (27:)
  have W:=Walks.range (prog:=X.prog) (w:=X.w) (I.ok.hd hc) it lo 1 n
  refine W.item i s _ _ hg st fun v h' tk hv st' kk=>?_
  obtain ⟨t,rfl⟩:=hv
  have I1:Inv X pins σ H { s with heap:=h',toks:=tk }:=I.turned (fun b o hb e=>kk b o (by simpa using hb) e) f0 f1 f3 f4 f5
  refine ⟨_,rfl,Xm (s:={ s with heap:=h',toks:=tk }) (n:="range_iterator") st' rfl rfl (18:) ⟨.int (lo + i),H,I1,⟨t,?_⟩,⟨rfl,rfl⟩,st',fun b hb=>(hf b hb).1⟩⟩
  rw [Int.mul_one]
 done:=by
  intro X hP hw hK hc i pins s σ H E I hf st hg
  subst hP hw hK
  obtain ⟨f0,f1,f2,f3,f4,f5⟩:=hf it (27:)
  exact wpAny_pyNext_range_end (I.ok.hd hc) st (by have:n≤i:=hg;lia) fun h' eb=>(36:)
 self:=fun _ _ _ _ _ st h=>wpAny_pyIter_rangeiter st h
end L2
namespace L2
open PySem PySem.Spec PyProof.Rows
section
variable {X:Cx} {tg:Expr}
def MW (K:PySem.W.Frag) (tl:TE):TI:=fun σ H R=>tl σ H fun x H1=>∃ a,x=.ref a∧(∃ xs,SqL K H1 a xs)∧R (Itl K a) H1
def Ph (K:PySem.W.Frag) (tl:TE):TI:=fun σ H R=>tl σ H fun x H1=>∃ a,x=.ref a∧(∃ xs,SqT K H1 a xs)∧R (Itt K a) H1
theorem QO {l:Expr} {tl:TE} (hl:PE X l tl):PI X tg l (MW X.K tl):=by
 intro pins s σ H R I h
 refine thn (hl pins s σ H _ I h) fun v s1 ⟨x,H1,I1,r1,q1⟩=>?_
 obtain ⟨a,e,⟨xs,hq⟩,q⟩:=q1
 subst e
 cases r1
 obtain ⟨its,rv,p,hz⟩:=I1.list hq
 refine wpAny_pyIter_list p.isList ?_
 refine ⟨s1.heap.objs.size,[s1.heap.objs.size],_,_,H1,rfl,I1.kept (t':=s1.toks) fun b o e=>Heap.get?_push_of_some _ e,Vo a _,⟨_,Heap.get?_push_size _ rfl,rfl,rfl⟩,fun b hb=>?_,q⟩
 have e:b=s1.heap.objs.size:=by simpa using hb
 subst e
 exact I1.fpOk (9:) (I1.hok.fresh (9:))
theorem WD {l:Expr} {tl:TE} (hl:PE X l tl):PI X tg l (Ph X.K tl):=by
 intro pins s σ H R I h
 refine thn (hl pins s σ H _ I h) fun v s1 ⟨x,H1,I1,r1,q1⟩=>?_
 obtain ⟨a,e,⟨xs,hq⟩,q⟩:=q1
 subst e
 cases r1
 obtain ⟨its,rv,p,hz⟩:=I1.tuple hq
 refine wpAny_pyIter_tuple (show s1.heap.IsTuple a its.toArray from p) ?_
 refine ⟨s1.heap.objs.size,[s1.heap.objs.size],_,_,H1,rfl,I1.kept (t':=s1.toks) fun b o e=>Heap.get?_push_of_some _ e,Wx a _,⟨_,Heap.get?_push_size _ rfl,rfl,rfl⟩,fun b hb=>?_,q⟩
 have e:b=s1.heap.objs.size:=by simpa using hb
 subst e
 exact I1.fpOk (9:) (I1.hok.fresh (9:))
theorem X3 {pins:List (10:)} {σ:St} {H:Hp} {s:Shared} {R:It→Hp→Prop} {E:Value→Shared→Prop} {lo hi:Int} {t u v:Tok} {tk:Nat} (I:Inv X pins σ H s) (h1:-(2 ^ 62)≤lo) (h2:lo < 2 ^ 62) (h3:-(2 ^ 62)≤hi) (h4:hi < 2 ^ 62)
 (q:R (Itr lo (hi - lo).toNat) H):wpAny (6:) X.A (pyIter (.ref s.heap.objs.size)) (PIE X pins σ tg R) E { s with heap:=s.heap.push { cls:=.type "range", data:=.fields #[.int lo t,.int hi u,.int 1 v] },toks:=tk }:=by
 refine wpAny_pyIter_range (IsRange.new ..) (small_one h1 h2 h3 h4) ?_
 have I1:Inv X pins σ H { s with heap:=s.heap.push { cls:=.type "range", data:=.fields #[.int lo t,.int hi u,.int 1 v] },toks:=tk }:=I.kept fun b o e=>Heap.get?_push_of_some _ e
 refine ⟨(s.heap.push { cls:=.type "range", data:=.fields #[.int lo t,.int hi u,.int 1 v] }).objs.size,[(s.heap.push { cls:=.type "range", data:=.fields #[.int lo t,.int hi u,.int 1 v] }).objs.size],_,_,H,rfl,I1.kept (t':=tk) fun b o e=>Heap.get?_push_of_some _ e,WC _ lo (hi - lo).toNat,?_,fun b hb=>?_,q⟩
 ·have e1:lo + ((0:Nat):Int) * 1=lo:=by simp
  have e2:(((hi - lo).toNat:Nat):Int) - ((0:Nat):Int)=Builtin.Range.rangeSize lo hi 1:=by rw [rangeSize_one];split <;> lia
  show IsRangeIter _ _ (lo + ((0:Nat):Int) * 1) ((((hi - lo).toNat:Nat):Int) - ((0:Nat):Int)) 1
  rw [e1,e2]
  exact Heap.get?_push_size _ rfl
 ·have e:b=(s.heap.push { cls:=.type "range", data:=.fields #[.int lo t,.int hi u,.int 1 v] }).objs.size:=by simpa using hb
  subst e
  exact I1.fpOk (9:) (I1.hok.fresh (9:))
def OJ (ta:TA):TI:=fun σ H R=>ta σ H fun vs H1=>∃ j:Int,vs=[.int j]∧-(2 ^ 62)≤j∧j < 2 ^ 62∧R (Itr 0 j.toNat) H1
def Oq (ta:TA):TI:=fun σ H R=>ta σ H fun vs H1=>∃ i j:Int,vs=[.int i,.int j]∧(-(2 ^ 62)≤i∧i < 2 ^ 62∧-(2 ^ 62)≤j∧j < 2 ^ 62)∧R (Itr i (j - i).toNat) H1
theorem QU {a:Expr} {ta:TA} {p pos:Pos} (hg:Gl X "range") (hm:X.mg "range" = none) (ha:PA X [a] ta) (hs:starEach [a] X.env=[(false,eval a X.env)]:=by rfl):PI X tg (.Call (.Name "range" p) [a] [] pos) (OJ ta):=by
 intro pins s σ H R I h
 refine Call_ (ZM I hg hm boot_range (PyProof.Rows.callWith_type1 (30:) hs rfl))
 obtain ⟨j,e,q1,q2,q⟩:=q1
 subst e
 cases r1 with
 | cons r rr =>
  cases rr
  obtain ⟨t,rfl⟩:=r
  exact call_range_1 (X3 I1 (11:) (11:) q1 q2 (by simpa using q))
theorem Vp {a b:Expr} {ta:TA} {p pos:Pos} (hg:Gl X "range") (hm:X.mg "range" = none) (ha:PA X [a,b] ta) (hs:starEach [a,b] X.env=[(false,eval a X.env),(false,eval b X.env)]:=by rfl) (hs2:starEach [b] X.env=[(false,eval b X.env)]:=by rfl) :
 PI X tg (.Call (.Name "range" p) [a,b] [] pos) (Oq ta):=by
 intro pins s σ H R I h
 refine Call_ (ZM I hg hm boot_range (PyProof.Rows.callWith_type1 (30:) (by rw [hs,hs2]) (by rw [hs2];rfl)))
 obtain ⟨i,j,e,⟨q1,q2,q3,q4⟩,q⟩:=q1
 subst e
 cases r1 with
 | cons r rr =>
  cases rr with
  | cons r' rr =>
   cases rr
   obtain ⟨t,rfl⟩:=r
   obtain ⟨t',rfl⟩:=r'
   exact call_range_2 (X3 I1 q1 q2 q3 q4 q)
def O1 (wi:TI) (g:TG) (tb:TS):TS:=fun D σ H=>wi σ H fun J H1=>∃ W:Nat→Nat→St→Hp→Prop,(∃ m,W 0 m σ H1)∧∀ i m σ H,W i m σ H →
 (J.stop i H∧D.nx σ H)∨(J.go i H∧∃ N:St→Hp→Prop,(17:)∧∀ x H',J.yld i H x H'→g x σ H' fun σ2 H2=>tb { D with nx:=N,ct:=N,bk:=D.nx } σ2 H2)
def UH (fp:List Addr) (h:Heap):List (10:):=fp.filterMap fun b=>(h.get? b).map fun o=>(b,o)
theorem ZN {fp:List Addr} {h:Heap} {b:Addr} {o:Obj} (hb:b ∈ fp) (e:h.get? b=some o):(b,o) ∈ UH fp h:=List.mem_filterMap.mpr ⟨b,hb,by rw [e];rfl⟩
theorem VO {fp:List Addr} {h:Heap} {p:Addr × Obj} (hp:p ∈ UH fp h):p.1 ∈ fp∧h.get? p.1=some p.2:=by
 obtain ⟨b,hb,e⟩:=List.mem_filterMap.mp hp
 cases q:h.get? b with
 | none=>rw [q] at e;cases e
 | some o =>
  rw [q] at e
  have e':(b,o)=p:=Option.some.inj e
  subst e'
  exact ⟨hb,q⟩
theorem Inv.pinned {pins:List (10:)} {σ:St} {H:Hp} {s:Shared} {fp:List Addr} (I:Inv X pins σ H s) (hf:∀ b ∈ fp,Yz X pins H b) (ho:∀ b ∈ fp,∃ o,s.heap.get? b=some o∧∀ v,o.data≠.cell v):Inv X (pins ++ UH fp s.heap) σ H s :=
 I.pins_of fun p hp=>(List.mem_append.mp hp).elim (fun z=>I.pin p (List.mem_append_right _ z)) fun z=>by
  obtain ⟨hb,e⟩:=VO z
  obtain ⟨f0,f1,f2,_⟩:=hf p.1 hb
  obtain ⟨o,e',d⟩:=ho p.1 hb
  rw [e] at e';cases e'
  exact ⟨e,f0,f1,f2,d⟩
theorem Inv.unpinned {pins pl:List (10:)} {σ:St} {H:Hp} {s:Shared} (I:Inv X (pins ++ pl) σ H s):Inv X pins σ H s:=I.pins_of fun p hp=>I.pin p (List.mem_append_right _ (List.mem_append_left _ hp))
theorem QL {iter:Expr} {body:List Stmt} {wi:TI} {g:TG} {tb:TS} {pos:Pos} (hp:PassesOwn (6:) X.A X.env X.xe) (hc:X.calm=true) (hi:PI X tg iter wi) (hg:PG X tg g) (hb:PSs X body tb)
 (hs:∀ x,foldedSetIterable iter X.env x=pure x:=by intro _;rfl):PS X (.For tg iter body [] pos) (O1 wi g tb):=by
 intro pins s σ H D I h
 refine wpAny_For (thn (hi pins s σ H _ I h) fun v s1 h1=>thn h1 fun itv s2 h2=>?_) hs
 obtain ⟨it,fp,tn,J,H2,e,I2,T,st2,f2,W,⟨m0,w0⟩,turn⟩:=h2
 subst e
 have stat:∀ {H':Hp},(∀ b ∈ fp,H' b=none)→∀ b ∈ fp,Yz X pins H' b:=fun hn b hb=>⟨hn b hb,(f2 b hb).2⟩
 refine codeAny_forLoop_any (fun n s'=>∃ i σ' H',Inv X pins σ' H' s'∧tn i s'.heap∧(∀ b ∈ fp,H' b=none)∧W i n σ' H') ?_ m0 ⟨0,σ,H2,I2,st2,fun b hb=>(f2 b hb).1,w0⟩
 rintro n s3 ⟨i,σ3,H3,I3,st3,fr3,w3⟩
 rcases turn i n σ3 H3 w3 with ⟨stop,qn⟩ | ⟨go,N,hN,step⟩
 ·refine wpAny_passesOwn hp (thn (T.done X rfl rfl rfl hc i pins s3 σ3 H3 X.xe I3 (stat fr3) st3 stop) fun r s4 ⟨hr,I4⟩=>?_)
  subst hr
  exact wpAny_execs_nil ⟨σ3,H3,I4,qn⟩
 ·refine wpAny_passesOwn hp (thn (T.item X rfl rfl rfl hc i pins s3 σ3 H3 X.xe I3 (stat fr3) st3 go) fun r s4 ⟨u,hr,h4⟩=>?_)
  subst hr
  refine wpAny_passesOwn hp (thn h4 fun _ s5 ⟨x,H5,I5,r5,y5,st5,fr5⟩=>?_)
  have I5':=I5.pinned (stat fr5) (T.obj _ _ st5)
  refine wpAny_passesOwn hp (thn (hg _ s5 σ3 H5 x u _ I5' r5 (step x H5 y5)) fun _ s6 ⟨σ6,H6,I6,q6⟩=>?_)
  refine wpAny_passesOwn hp (thn (hb _ s6 σ6 H6 _ I6 q6) fun f s7 q7=>?_)
  have again:∀ {σ7:St} {H7:Hp},Inv X (pins ++ UH fp s5.heap) σ7 H7 s7→N σ7 H7→∃ m,m < n∧∃ i σ' H',Inv X pins σ' H' s7∧tn i s7.heap∧(∀ b ∈ fp,H' b=none)∧W i m σ' H':=fun {σ7 H7} I7 n7=>by
   obtain ⟨m',hm,w7⟩:=hN σ7 H7 n7
   refine ⟨m',hm,i + 1,σ7,H7,I7.unpinned,T.keep _ _ _ st5 fun b hb o e=>(I7.pin (b,o) (List.mem_append_right _ (List.mem_append_right _ (ZN hb e)))).1,fun b hb=>?_,w7⟩
   obtain ⟨o,e,d⟩:=T.obj _ _ st5 b hb
   exact (I7.pin (b,o) (List.mem_append_right _ (List.mem_append_right _ (ZN hb e)))).2.1
  cases f with
  | next=>obtain ⟨σ7,H7,I7,n7⟩:=q7;exact again I7 n7
  | cont=>obtain ⟨σ7,H7,I7,n7⟩:=q7;exact again I7 n7
  | brk=>obtain ⟨σ7,H7,I7,q7⟩:=q7;exact ⟨σ7,H7,I7.unpinned,q7⟩
  | ret v=>obtain ⟨x7,σ7,H7,I7,r7,q7⟩:=q7;exact ⟨x7,σ7,H7,I7.unpinned,r7,q7⟩
end
theorem Yf {K:PySem.W.Frag} {a:Addr} {xs:List V} {g:TG} {tb:TS} {D:Ends} {σ:St} {H:Hp} (Pv:Nat→St→Hp→Prop) (h0:Pv 0 σ H) (hl:∀ i σ H,i≤xs.length→Pv i σ H→SqL K H a xs)
 (hs:∀ i x σ H,xs[i]?=some x→Pv i σ H→g x σ H fun σ2 H2=>tb { D with nx:=Pv (i + 1),ct:=Pv (i + 1),bk:=D.nx } σ2 H2) (hd:∀ σ H,Pv xs.length σ H→D.nx σ H) :
 ∃ W:Nat→Nat→St→Hp→Prop,(∃ m,W 0 m σ H)∧∀ i m σ H,W i m σ H →
  ((Itl K a).stop i H∧D.nx σ H)∨((Itl K a).go i H∧∃ N:St→Hp→Prop,(17:)∧∀ x H',(Itl K a).yld i H x H'→g x σ H' fun σ2 H2=>tb { D with nx:=N,ct:=N,bk:=D.nx } σ2 H2):=by
 refine (50:)
 rintro i m σ H ⟨rfl,hi,p⟩
 have q:=hl i σ H hi p
 by_cases hlt:i < xs.length
 ·refine .inr ⟨⟨xs,xs[i],q,by simp [hlt]⟩,Pv (i + 1),fun σ' H' p'=>⟨xs.length - (i + 1),by lia,rfl,hlt,p'⟩,fun x H' y=>?_⟩
  obtain ⟨e,y⟩:=y
  subst e
  exact hs i x σ _ (y xs q) p
 ·have e:i=xs.length:=by lia
  subst e
  exact .inl ⟨⟨xs,q,Nat.le_refl _⟩,hd σ H p⟩
theorem W4 {K:PySem.W.Frag} {a:Addr} {xs:List V} {g:TG} {tb:TS} {D:Ends} {σ:St} {H:Hp} (Pv:Nat→St→Hp→Prop) (h0:Pv 0 σ H) (hl:∀ i σ H,i≤xs.length→Pv i σ H→SqT K H a xs)
 (hs:∀ i x σ H,xs[i]?=some x→Pv i σ H→g x σ H fun σ2 H2=>tb { D with nx:=Pv (i + 1),ct:=Pv (i + 1),bk:=D.nx } σ2 H2) (hd:∀ σ H,Pv xs.length σ H→D.nx σ H) :
 ∃ W:Nat→Nat→St→Hp→Prop,(∃ m,W 0 m σ H)∧∀ i m σ H,W i m σ H →
  ((Itt K a).stop i H∧D.nx σ H)∨((Itt K a).go i H∧∃ N:St→Hp→Prop,(17:)∧∀ x H',(Itt K a).yld i H x H'→g x σ H' fun σ2 H2=>tb { D with nx:=N,ct:=N,bk:=D.nx } σ2 H2):=by
 refine (50:)
 rintro i m σ H ⟨rfl,hi,p⟩
 have q:=hl i σ H hi p
 by_cases hlt:i < xs.length
 ·refine .inr ⟨⟨xs,xs[i],q,by simp [hlt]⟩,Pv (i + 1),fun σ' H' p'=>⟨xs.length - (i + 1),by lia,rfl,hlt,p'⟩,fun x H' y=>?_⟩
  obtain ⟨e,y⟩:=y
  subst e
  exact hs i x σ _ (y xs q) p
 ·have e:i=xs.length:=by lia
  subst e
  exact .inl ⟨⟨xs,q,Nat.le_refl _⟩,hd σ H p⟩
theorem Q7 {lo:Int} {n:Nat} {g:TG} {tb:TS} {D:Ends} {σ:St} {H:Hp} (Pv:Nat→St→Hp→Prop) (h0:Pv 0 σ H)
 (hs:∀ i σ H,i < n→Pv i σ H→g (.int (lo + i)) σ H fun σ2 H2=>tb { D with nx:=Pv (i + 1),ct:=Pv (i + 1),bk:=D.nx } σ2 H2) (hd:∀ σ H,Pv n σ H→D.nx σ H) :
 ∃ W:Nat→Nat→St→Hp→Prop,(∃ m,W 0 m σ H)∧∀ i m σ H,W i m σ H →
  ((Itr lo n).stop i H∧D.nx σ H)∨((Itr lo n).go i H∧∃ N:St→Hp→Prop,(17:)∧∀ x H',(Itr lo n).yld i H x H'→g x σ H' fun σ2 H2=>tb { D with nx:=N,ct:=N,bk:=D.nx } σ2 H2):=by
 refine ⟨fun i m σ H=>m=n - i∧i≤n∧Pv i σ H,⟨n,by simp,Nat.zero_le _,h0⟩,?_⟩
 rintro i m σ H ⟨rfl,hi,p⟩
 by_cases hlt:i < n
 ·refine .inr ⟨hlt,Pv (i + 1),fun σ' H' p'=>⟨n - (i + 1),by lia,rfl,hlt,p'⟩,fun x H' y=>?_⟩
  obtain ⟨e,y⟩:=y
  subst e y
  exact hs i σ _ hlt p
 ·have e:i=n:=by lia
  subst e
  exact .inl ⟨Nat.le_refl _,hd σ H p⟩
end L2
namespace L2
open PySem PySem.Spec PyProof.Rows
abbrev R2:=V→V→Hp→VK→Prop
def OpR (X:Cx) (f:Value→Value→Sem Value) (r:R2):Prop :=
 ∀ (pins:List (10:)) (s:Shared) (σ:St) (H:Hp) (x y:V) (v u:Value) (Q:VK),Inv X pins σ H s→RelV x v→RelV y u→r x y H Q →
  wpAny (6:) X.A (f v u) (EP X pins σ Q) X.xe s
def UnR (X:Cx) (f:Value→Sem Value) (r:V→Hp→VK→Prop):Prop :=
 ∀ (pins:List (10:)) (s:Shared) (σ:St) (H:Hp) (x:V) (v:Value) (Q:VK),Inv X pins σ H s→RelV x v→r x H Q →
  wpAny (6:) X.A (f v) (EP X pins σ Q) X.xe s
def Ym (X:Cx) (f:Value) (r:List V→Hp→VK→Prop):Prop :=
 ∀ (pins:List (10:)) (s:Shared) (σ:St) (H:Hp) (xs:List V) (us:List Value) (Q:VK),Inv X pins σ H s→Vals xs us→r xs H Q →
  wpAny (6:) X.A (call f us) (EP X pins σ Q) X.xe s
def tOp (r:R2) (ta tb:TE):TE:=fun σ H Q=>ta σ H fun x H1=>tb σ H1 fun y H2=>r x y H2 Q
def tUn (r:V→Hp→VK→Prop) (ta:TE):TE:=fun σ H Q=>ta σ H fun x H1=>r x H1 Q
def rI (C:Int→Int→Prop) (g:Int→Int→V):R2:=fun x y H Q=>∃ i j,x=.int i∧y=.int j∧C i j∧Q (g i j) H
def rI0 (g:Int→Int→V):R2:=fun x y H Q=>∃ i j,x=.int i∧y=.int j∧Q (g i j) H
def rU (g:Int→V):V→Hp→VK→Prop:=fun x H Q=>∃ i,x=.int i∧Q (g i) H
section
variable {X:Cx} {a b c:Expr} {ta tb tc:TE} {pos:Pos}
theorem Np (ha:PE X a ta) (hb:PE X b tb) {pins:List (10:)} {s:Shared} {σ:St} {H:Hp} {R:V→V→Hp→Prop} (I:Inv X pins σ H s)
 (h:ta σ H fun x H1=>tb σ H1 fun y H2=>R x y H2) {Q:Value→Shared→Prop} {f:Value→Value→Sem Value}
 (hf:∀ v u s2 x y H2,Inv X pins σ H2 s2→RelV x v→RelV y u→R x y H2→wpAny (6:) X.A (f v u) Q X.xe s2) :
 wpAny (6:) X.A (eval a X.env) (fun v s₁=>wpAny (6:) X.A (eval b X.env) (fun u s₂=>wpAny (6:) X.A (f v u) Q X.xe s₂) X.xe s₁) X.xe s:=by
 refine thn (ha pins s σ H _ I h) fun v s1 ⟨x,H1,I1,r1,q1⟩=>?_
 refine thn (hb pins s1 σ H1 _ I1 q1) fun u s2 ⟨y,H2,I2,r2,q2⟩=>?_
 exact hf v u s2 x y H2 I2 r1 r2 q2
theorem Qm {op:Operator} {r:R2} (ho:OpR X (binaryOp op) r) (ha:PE X a ta) (hb:PE X b tb):PE X (.BinOp a op b pos) (tOp r ta tb):=by
 intro pins s σ H Q I h
 exact wpAny_BinOp (Np ha hb I h fun v u s2 x y H2 I2 rx ry q=>ho pins s2 σ H2 x y v u Q I2 rx ry q)
theorem Ov {op:UnaryOp} {r:V→Hp→VK→Prop} (ho:UnR X (unaryOp op) r) (ha:PE X a ta):PE X (.UnaryOp op a pos) (tUn r ta):=by
 intro pins s σ H Q I h
 exact UnaryOp_ (thn (ha pins s σ H _ I h) fun v s1 ⟨x,H1,I1,r1,q1⟩=>ho pins s1 σ H1 x v Q I1 r1 q1)
theorem opI {f:Value→Value→Sem Value} {C:Int→Int→Prop} {g:Int→Int→Int}
 (rule:∀ (i j:Int) (t u:Tok) (s:Shared) (Q:Value→Shared→Prop) (E:Value→Shared→Prop),C i j→Q (.int (g i j) s.toks) { s with toks:=s.toks + 1 }→wpAny (6:) X.A (f (.int i t) (.int j u)) Q E s) :
 OpR X f (rI C fun i j=>.int (g i j)):=by
 intro pins s σ H x y v u Q I rx ry h
 obtain ⟨i,j,rfl,rfl,hc,q⟩:=h
 obtain ⟨t,rfl⟩:=rx
 obtain ⟨t',rfl⟩:=ry
 exact rule i j t t' s _ _ hc ⟨.int (g i j),H,I.tok _,⟨_,rfl⟩,q⟩
theorem OQ {f:Value→Value→Sem Value} {g:Int→Int→Int}
 (rule:∀ (i j:Int) (t u:Tok) (s:Shared) (Q:Value→Shared→Prop) (E:Value→Shared→Prop),Q (.int (g i j) s.toks) { s with toks:=s.toks + 1 }→wpAny (6:) X.A (f (.int i t) (.int j u)) Q E s) :
 OpR X f (rI0 fun i j=>.int (g i j)):=by
 intro pins s σ H x y v u Q I rx ry h
 obtain ⟨i,j,rfl,rfl,q⟩:=h
 obtain ⟨t,rfl⟩:=rx
 obtain ⟨t',rfl⟩:=ry
 exact rule i j t t' s _ _ ⟨.int (g i j),H,I.tok _,⟨_,rfl⟩,q⟩
theorem MC {f:Value→Value→Sem Value} {g:Int→Int→Bool}
 (rule:∀ (i j:Int) (t u:Tok) (s:Shared) (Q:Value→Shared→Prop) (E:Value→Shared→Prop),Q (.bool (g i j)) s→wpAny (6:) X.A (f (.int i t) (.int j u)) Q E s) :
 OpR X f (rI0 fun i j=>.bl (g i j)):=by
 intro pins s σ H x y v u Q I rx ry h
 obtain ⟨i,j,rfl,rfl,q⟩:=h
 obtain ⟨t,rfl⟩:=rx
 obtain ⟨t',rfl⟩:=ry
 exact rule i j t t' s _ _ ⟨.bl (g i j),H,I,rfl,q⟩
def Pn (i j:Int):Prop:=0 < j∧j < 1073741824
def OX (i j:Int):Prop:=0≤j∧j≤1000000∧i.natAbs < 2 ^ 64
def CMul (i j:Int):Prop:=(-(2 ^ 64) < i∧i < 2 ^ 64)∨(-(2 ^ 64) < j∧j < 2 ^ 64)
theorem CMul.ok {i j:Int} (h:CMul i j):IntMulOk i j:=by
 rcases h with ⟨h1,h2⟩ | ⟨h1,h2⟩
 ·exact .of_left (intBits_le_64 h1 h2)
 ·exact .of_right (intBits_le_64 h1 h2)
theorem QK:OpR X (binaryOp .Add) (rI0 fun i j=>.int (i + j)):=OQ fun _ _ _ _ _ _ _ q=>add_int q
theorem ZS:OpR X (binaryOp .Sub) (rI0 fun i j=>.int (i - j)):=OQ fun _ _ _ _ _ _ _ q=>sub_int q
theorem ZR:OpR X (binaryOp .Mult) (rI CMul fun i j=>.int (i * j)):=opI fun _ _ _ _ _ _ _ hc q=>mul_int q hc.ok
theorem QT:OpR X (binaryOp .FloorDiv) (rI Pn fun i j=>.int (i / j)):=opI fun i j _ _ _ _ _ hc q=>by
 have h1:(0:Int) < j:=hc.1
 have h2:j < 1073741824:=hc.2
 exact floordiv_int (11:) (by rw [Int.fdiv_eq_ediv_of_nonneg i (11:)];exact q) (.inl (PyProof.noPylong_small (11:)))
theorem QD:OpR X (binaryOp .Mod) (rI (fun _ j=>0 < j) fun i j=>.int (i % j)):=opI fun i j _ _ _ _ _ hc q=>by
 have h1:(0:Int) < j:=hc
 exact mod_int' (11:) (by rw [Int.fmod_eq_emod_of_nonneg i (11:)];exact q)
theorem G3:OpR X (binaryOp .Pow) (rI OX fun i j=>.int (i ^ j.toNat)):=opI fun _ _ _ _ _ _ _ hc q=>pow_int_small hc.1 hc.2.1 hc.2.2 q
theorem unI {f:Value→Sem Value} {g:Int→Int}
 (rule:∀ (i:Int) (t:Tok) (s:Shared) (Q:Value→Shared→Prop) (E:Value→Shared→Prop),Q (.int (g i) s.toks) { s with toks:=s.toks + 1 }→wpAny (6:) X.A (f (.int i t)) Q E s) :
 UnR X f (rU fun i=>.int (g i)):=by
 intro pins s σ H x v Q I rx h
 obtain ⟨i,rfl,q⟩:=h
 obtain ⟨t,rfl⟩:=rx
 exact rule i t s _ _ ⟨.int (g i),H,I.tok _,⟨_,rfl⟩,q⟩
theorem Nv:UnR X (unaryOp .USub) (rU fun i=>.int (-i)):=unI fun _ _ _ _ _ q=>neg_int q
end
def OV:V→V→Bool
 | .non,.non=>true | .non,.int _=>true | .int _,.non=>true | .non,.bl _=>true | .bl _,.non=>true | .non,.str _=>true | .str _,.non=>true
 | .int _,.int _=>true | .bl _,.bl _=>true | .str _,.str _=>true | .byt _,.byt _=>true
 | .int _,.str _=>true | .str _,.int _=>true | .bl _,.str _=>true | .str _,.bl _=>true
 | _,_=>false
def rEq:R2:=fun x y H Q=>OV x y=true∧Q (.bl (decide (x=y))) H
def rNe:R2:=fun x y H Q=>OV x y=true∧Q (.bl (!decide (x=y))) H
theorem Vi {i j:Int}:decide (V.int i=V.int j)=(i == j):=by
 rw [Bool.eq_iff_iff]
 simp
theorem Gw {i j:Bool}:decide (V.bl i=V.bl j)=(i == j):=by
 rw [Bool.eq_iff_iff]
 simp
theorem Vc {i j:Str}:decide (V.str i=V.str j)=(i == j):=by
 rw [Bool.eq_iff_iff]
 simp
theorem Vf {i j:Array UInt8}:decide (V.byt i=V.byt j)=(i.toList == j.toList):=by
 rw [Bool.eq_iff_iff]
 cases i
 cases j
 simp
section
variable {X:Cx} {a b c:Expr} {ta tb tc:TE} {pos:Pos}
theorem QC {pins:List (10:)} {σ:St} {H:Hp} {s:Shared} {Q:VK} {k k':Bool} (I:Inv X pins σ H s) (q:Q (.bl k) H) (e:k=k'):EP X pins σ Q (.bool k') s:=by
 subst e
 exact ⟨.bl k,H,I,rfl,q⟩
theorem Q1:OpR X (compareOp .Eq) rEq:=by
 intro pins s σ H x y v u Q I rx ry h
 obtain ⟨hs,q⟩:=h
 cases x with
 | non =>
  cases rx
  cases y with
  | non=>cases ry;exact PySem.EqNone.eq_none_none (57:)
  | bl j=>cases ry;exact PySem.EqNone.eq_none_bool (57:)
  | int j=>obtain ⟨t',rfl⟩:=ry;exact PySem.EqNone.eq_none_int (57:)
  | str j=>obtain ⟨t',rfl⟩:=ry;exact PySem.EqNone.eq_none_str (57:)
  | _=>exact absurd (show false=true from hs) Bool.false_ne_true
 | bl i =>
  cases rx
  cases y with
  | non=>cases ry;exact PySem.EqNone.eq_bool_none (57:)
  | bl j=>cases ry;exact eq_bool (QC I q Gw)
  | str j=>obtain ⟨t',rfl⟩:=ry;exact PySem.EqMixed.eq_bool_str (57:)
  | _=>exact absurd (show false=true from hs) Bool.false_ne_true
 | int i =>
  obtain ⟨t,rfl⟩:=rx
  cases y with
  | non=>cases ry;exact PySem.EqNone.eq_int_none (57:)
  | int j=>obtain ⟨t',rfl⟩:=ry;exact eq_int (QC I q Vi)
  | str j=>obtain ⟨t',rfl⟩:=ry;exact PySem.EqMixed.eq_int_str (57:)
  | _=>exact absurd (show false=true from hs) Bool.false_ne_true
 | str i =>
  obtain ⟨t,rfl⟩:=rx
  cases y with
  | non=>cases ry;exact PySem.EqNone.eq_str_none (57:)
  | bl j=>cases ry;exact PySem.EqMixed.eq_str_bool (57:)
  | int j=>obtain ⟨t',rfl⟩:=ry;exact PySem.EqMixed.eq_str_int (57:)
  | str j=>obtain ⟨t',rfl⟩:=ry;exact eq_str (QC I q Vc)
  | _=>exact absurd (show false=true from hs) Bool.false_ne_true
 | byt i =>
  obtain ⟨t,rfl⟩:=rx
  cases y with
  | byt j=>obtain ⟨t',rfl⟩:=ry;exact PySem.W.eq_bytes (QC I q Vf)
  | _=>exact absurd (show false=true from hs) Bool.false_ne_true
 | _=>cases y <;> exact absurd (show false=true from hs) Bool.false_ne_true
theorem GV:OpR X (compareOp .NotEq) rNe:=by
 intro pins s σ H x y v u Q I rx ry h
 obtain ⟨hs,q⟩:=h
 cases x with
 | non =>
  cases rx
  cases y with
  | non=>cases ry;exact PySem.EqNone.ne_none_none (57:)
  | bl j=>cases ry;exact PySem.EqNone.ne_none_bool (57:)
  | int j=>obtain ⟨t',rfl⟩:=ry;exact PySem.EqNone.ne_none_int (57:)
  | str j=>obtain ⟨t',rfl⟩:=ry;exact PySem.EqNone.ne_none_str (57:)
  | _=>exact absurd (show false=true from hs) Bool.false_ne_true
 | bl i =>
  cases rx
  cases y with
  | non=>cases ry;exact PySem.EqNone.ne_bool_none (57:)
  | bl j=>cases ry;exact ne_bool (QC I q (congrArg not Gw))
  | str j=>obtain ⟨t',rfl⟩:=ry;exact PySem.EqMixed.ne_bool_str (57:)
  | _=>exact absurd (show false=true from hs) Bool.false_ne_true
 | int i =>
  obtain ⟨t,rfl⟩:=rx
  cases y with
  | non=>cases ry;exact PySem.EqNone.ne_int_none (57:)
  | int j=>obtain ⟨t',rfl⟩:=ry;exact ne_int (QC I q (congrArg not Vi))
  | str j=>obtain ⟨t',rfl⟩:=ry;exact PySem.EqMixed.ne_int_str (57:)
  | _=>exact absurd (show false=true from hs) Bool.false_ne_true
 | str i =>
  obtain ⟨t,rfl⟩:=rx
  cases y with
  | non=>cases ry;exact PySem.EqNone.ne_str_none (57:)
  | bl j=>cases ry;exact PySem.EqMixed.ne_str_bool (57:)
  | int j=>obtain ⟨t',rfl⟩:=ry;exact PySem.EqMixed.ne_str_int (57:)
  | str j=>obtain ⟨t',rfl⟩:=ry;exact ne_str (QC I q (congrArg not Vc))
  | _=>exact absurd (show false=true from hs) Bool.false_ne_true
 | byt i =>
  obtain ⟨t,rfl⟩:=rx
  cases y with
  | byt j=>obtain ⟨t',rfl⟩:=ry;exact PySem.W.ne_bytes (QC I q (congrArg not Vf))
  | _=>exact absurd (show false=true from hs) Bool.false_ne_true
 | _=>cases y <;> exact absurd (show false=true from hs) Bool.false_ne_true
theorem Jn:OpR X (compareOp .Lt) (rI0 fun i j=>.bl (decide (i < j))):=MC fun _ _ _ _ _ _ _ q=>lt_int q
theorem OD:OpR X (compareOp .LtE) (rI0 fun i j=>.bl (decide (i≤j))):=MC fun _ _ _ _ _ _ _ q=>le_int q
theorem Ji:OpR X (compareOp .Gt) (rI0 fun i j=>.bl (decide (j < i))):=MC fun _ _ _ _ _ _ _ q=>gt_int q
theorem ON:OpR X (compareOp .GtE) (rI0 fun i j=>.bl (decide (j≤i))):=MC fun _ _ _ _ _ _ _ q=>ge_int q
theorem Uj:OpR X (compareOp .IsNot) (fun x y H Q=>y=.non∧Q (.bl (!decide (x=.non))) H):=by
 intro pins s σ H x y v u Q I rx ry h
 obtain ⟨rfl,q⟩:=h
 cases ry
 refine isnot_none_gen (QC I q ?_)
 cases x <;> first
  | (cases rx;rfl)
  | (obtain ⟨t,rfl⟩:=rx;rfl)
theorem Qt (b:Expr) {op:CmpOp} (h:op≠.In:=by decide) (h2:op≠.NotIn:=by decide):behindInMarks op b=false:=by
 have e1:(op == CmpOp.In)=false:=by cases op <;> first | rfl | exact absurd rfl h
 have e2:(op == CmpOp.NotIn)=false:=by cases op <;> first | rfl | exact absurd rfl h2
 cases b <;> simp [behindInMarks,e1,e2]
theorem Z1 {op:CmpOp} {r:R2} (ho:OpR X (compareOp op) r) (ha:PE X a ta) (hb:PE X b tb) (hm:behindInMarks op b=false):PE X (.Compare a [op] [b] pos) (tOp r ta tb):=by
 intro pins s σ H Q I h
 exact wpAny_Compare1 (Np ha hb I h fun v u s2 x y H2 I2 rx ry q=>ho pins s2 σ H2 x y v u Q I2 rx ry q) hm
def Oe (t:TE):TT:=fun σ H Q=>t σ H fun x H'=>∃ k,x=.bl k∧Q k H'
theorem Qp {op:CmpOp} {r:R2} (ho:OpR X (compareOp op) r) (ha:PE X a ta) (hb:PE X b tb) (hm:behindInMarks op b=false):PT X (.Compare a [op] [b] pos) (Oe (tOp r ta tb)):=by
 intro pins s σ H Q I h
 refine wpAny_isTrue_Compare1 (thn (ha pins s σ H _ I h) fun v s1 ⟨x,H1,I1,r1,q1⟩=>thn (hb pins s1 σ H1 _ I1 q1) fun u s2 ⟨y,H2,I2,r2,q2⟩ =>
  thn (ho pins s2 σ H2 x y v u _ I2 r1 r2 q2) fun c s3 ⟨z,H3,I3,r3,k,e,q3⟩=>?_) hm
 subst e
 cases r3
 exact wpAny_truthy_bool ⟨H3,I3,q3⟩
def NO (r r':R2) (ta tb tc:TE):TE:=fun σ H Q=>ta σ H fun x H1=>tb σ H1 fun y H2=>r x y H2 fun z H3=>∃ k,z=.bl k ∧
 (if k=true then tc σ H3 fun w' H4=>r' y w' H4 Q else Q (.bl false) H3)
theorem Gy {op op':CmpOp} {r r':R2} (ho:OpR X (compareOp op) r) (ho':OpR X (compareOp op') r') (ha:PE X a ta) (hb:PE X b tb) (hc:PE X c tc)
 (hm:lastMarks [op,op'] [b,c]=false:=by with_unfolding_all rfl):PE X (.Compare a [op,op'] [b,c] pos) (NO r r' ta tb tc):=by
 intro pins s σ H Q I h
 refine Compare_chain (thn (ha pins s σ H _ I h) fun v s1 ⟨x,H1,I1,r1,q1⟩=>chain_link (thn (hb pins s1 σ H1 _ I1 q1) fun u s2 ⟨y,H2,I2,r2,q2⟩ =>
  thn (ho pins s2 σ H2 x y v u _ I2 r1 r2 q2) fun d s3 ⟨z,H3,I3,r3,k,e,q3⟩=>?_)) hm
 subst e
 cases r3
 refine wpAny_truthy_bool ?_
 cases k with
 | false=>exact ite_ff ⟨.bl false,H3,I3,rfl,q3⟩
 | true=>exact ite_tt (chain_last (thn (hc pins s3 σ H3 _ I3 q3) fun w' s4 ⟨z',H4,I4,r4,q4⟩=>ho' pins s4 σ H4 y z' u w' Q I4 r2 r4 q4))
theorem UP:(sizeLine:Nat) < 2 ^ 63:=by rw [sizeLine_eq];decide
theorem XW {x:V} {us:List Value} (r:Vals [x] us):∃ u,us=[u]∧RelV x u:=by
 cases r with
 | cons r1 r2=>cases r2;exact ⟨_,rfl,r1⟩
theorem MQ {x y:V} {us:List Value} (r:Vals [x,y] us):∃ u w',us=[u,w']∧RelV x u∧RelV y w':=by
 cases r with
 | cons r1 r2 =>
  cases r2 with
  | cons r3 r4=>cases r4;exact ⟨_,_,rfl,r1,r3⟩
theorem Jf:Ym X (.type "int") (fun xs H Q=>(∃ i,xs=[.int i]∧Q (.int i) H)∨∃ k,xs=[.bl k]∧Q (.int (if k then 1 else 0)) H):=by
 intro pins s σ H xs us Q I r h
 rcases h with ⟨i,rfl,q⟩ | ⟨k,rfl,q⟩
 ·obtain ⟨u,rfl,t,rfl⟩:=XW r
  exact call_int_int ⟨.int i,H,I,⟨_,rfl⟩,q⟩
 ·obtain ⟨u,rfl,r1⟩:=XW r
  cases r1
  exact call_int_bool ⟨.int (if k then 1 else 0),H,I.tok _,⟨_,rfl⟩,q⟩
end
end L2
namespace L2
open PySem PySem.Spec PyProof.Rows
structure ObjM (h:Heap) (x dx C:Addr) (mA:Str→Option Value):Prop where
 obj:h.get? x=some (PySem.W.instObj C dx)
 ns:h.Ns1 dx mA
 ne:dx≠x
theorem VV {h:Heap} {dx:Addr} {mA:Str→Option Value} (n:h.Ns1 dx mA):∃ od,h.get? dx=some od∧∀ name,PySem.W.lookIn name od=some (mA name):=by
 obtain ⟨o,es,ep,ho,hd,hk,_,hm⟩:=n
 refine ⟨o,ho,fun name=>?_⟩
 have e:=hm name
 unfold nsFind findBy at e
 rw [← Array.find?_toList] at e
 unfold PySem.W.lookIn
 rw [hd]
 dsimp only
 split
 ·rename_i y q
  rw [q] at e
  exact congrArg some e
 ·rename_i q
  rw [q] at e
  have a:es.toList.any (·.refKey)=false:=by
   rw [List.any_eq_false]
   intro y hy
   obtain ⟨z,t,hkey⟩:=hk y (Array.mem_toList_iff.mp hy)
   simp [DictEntry.refKey,hkey]
  have a':¬ es.toList.any (·.refKey)=true:=by rw [a];exact Bool.false_ne_true
  rw [if_neg a']
  exact congrArg some e
theorem ObjM.look {h:Heap} {x dx C:Addr} {mA:Str→Option Value} (I:ObjM h x dx C mA):∃ od,PySem.W.InstAt h x (PySem.W.instObj C dx) C (some od)∧∀ name,PySem.W.lookIn name od=some (mA name) :=
 let ⟨od,ho,hl⟩:=VV I.ns
 ⟨od,⟨I.obj,rfl,rfl,ho⟩,hl⟩
section
variable {prog:Program} {w:World} {A:Around} {E:Value→Shared→Prop} {s:Shared} {K:PySem.W.Frag} {x dx C f:Addr} {mA:Str→Option Value} {name:Str} {v:Value}
theorem Mp {expr:Bool} {Q:Value→Shared→Prop} (X:K.In s.heap) (I:ObjM s.heap x dx C mA) (hg:PySem.W.plainGet K C name=true) (hh:PySem.W.hasDictIn K C=true)
 (ha:PySem.W.findIn K (.ref C) name=some none) (hv:mA name=some v) (hv':PySem.W.handedIn v=true) (h:Q v { s with toks:=s.toks + 1 }) :
 wpAny (26:) A (getAttr (.ref x) name expr) Q E s:=by
 obtain ⟨od,J,hl⟩:=I.look
 exact PySem.W.get_value X J (PySem.W.plainGet_of hg).1 (PySem.W.findObj_own hh ha rfl (by rw [hl,hv])) hv' h
theorem V2 {pl:Sem Bool} {Q:Value × List Value→Shared→Prop} (X:K.In s.heap) (I:ObjM s.heap x dx C mA) (hg:PySem.W.plainGet K C name=true)
 (hf:PySem.W.findIn K (.ref C) name=some (some (.ref f))) (ht:PySem.W.isFn K (.ref f)=true) (hv:mA name=none) (h:Q (.ref f,[.ref x]) s) :
 wpAny (26:) A (getMethod (.ref x) name pl) Q E s:=by
 obtain ⟨od,J,hl⟩:=I.look
 exact PySem.W.method_fn X J (PySem.W.plainGet_of hg).1 (PySem.W.plainGet_of hg).2 hf (beq_iff_eq.mp ht) (by show (PySem.W.lookIn name od).map (·.isSome)=some false;rw [hl,hv];rfl) h
theorem Mr {ns:List Str} {Q:Unit→Shared→Prop} (X:K.In s.heap) (I:ObjM s.heap x dx C mA)
 (hs:PySem.W.findIn K (.ref C) "__setattr__" = some (some (.builtin "object.__setattr__"))) (hp:PySem.W.plainOver K C=true) (ht:PySem.W.takerIn K C name=some none) (hh:PySem.W.hasDictIn K C=true)
 (hw:PySem.Within mA ns) (hsz:ns.length≤sizeLine)
 (h:∀ h',ObjM h' x dx C (fun y=>if y=name then some v else mA y)→Heap.SameBut dx s.heap h'→Q () { s with heap:=h',toks:=s.toks + 2 }) :
 wpAny (26:) A (setAttr (.ref x) name v) Q E s:=by
 obtain ⟨od,J,hl⟩:=I.look
 refine PySem.W.set_plain X J hs (PySem.W.osa_open (s:={ s with toks:=s.toks + 1 }) (r:=none) X J hp ht fun b=>?_)
 obtain ⟨cd,hc,hd'⟩:=PySem.W.any_some hh
 have hx:s.heap.get? x=some ⟨.ref C,some dx,.plain,#[]⟩:=I.obj
 refine wpAny_bind (wpAny_pure (wpAny_bind (wpAny_bind (wpAny_loadPart hx (wpAny_bind (PySem.W.Looks.here (s:={ s with toks:=s.toks + 1 }) (PySem.W.looks_clsIn X hc) ?_))))))
 rw [hd']
 refine wpAny_pure (a:=some dx) (wpAny_bind (wpAny_pure (wpAny_bind ?_)))
 refine wpAny_nsSet1 (s:={ s with toks:=s.toks + 1 }) I.ns fun h' hn2 hs2=>?_
 obtain ⟨oD,esD,epD,hoD,hdD,hcD⟩:=hn2.count (PySem.Within.cons name v hw)
 refine wpAny_bind (wpAny_lookBehind hoD (by rw [hdD];exact pastItsLine_dict (Nat.le_trans hcD (by rw [List.length_cons];lia))) ?_)
 exact wpAny_pure (h _ ⟨(hs2.2 _ (Ne.symm I.ne)).trans I.obj,hn2,I.ne⟩ hs2)
theorem GU {R:Result→Shared→Prop} {vs:List Value} {kw:List (Str × Value)} (X:K.In s.heap) (hm:PySem.W.makesIn K C=true)
 (hi:PySem.W.findIn K (.ref C) "__init__" = some (some (.ref f))) (hf:PySem.W.typeIn K (.ref f)=some (.type "function"))
 (h:codeAny (26:) (A.under (.builtin "type.__call__" ⟨.ref C :: vs,kw⟩)) (.call (.ref f) ⟨.ref (22:) :: vs,kw⟩) (PySem.W.InitBack (22:) R)
  { s with heap:=(s.heap.push PySem.W.emptyDict).push (PySem.W.instObj C s.heap.objs.size) }) :
 codeAny (26:) A (.call (.ref C) ⟨vs,kw⟩) R s:=by
 obtain ⟨hh,g,d,t,os⟩:=s
 exact PySem.W.make_core (PySem.W.makes_of X hm) (PySem.W.looks_findIn X hi) (fun self=>PySem.W.bind_fn X self hf) (.inl rfl) h
end
def Zl (f:Str) (v:V):List (Str × V)→List (Str × V)
 | []=>[(f,v)]
 | (g,x) :: r=>if g=f then (g,v) :: r else (g,x) :: Zl f v r
theorem Uc (f g:Str) (v:V):∀ fs:List (Str × V),(Zl f v fs).lookup g=if g=f then some v else fs.lookup g
 | []=>by
  show List.lookup g [(f,v)]=_
  by_cases h:g=f
  ·have hb:(g == f)=true:=beq_iff_eq.mpr h
   simp only [List.lookup,hb,if_pos h]
  ·have hb:(g == f)=false:=beq_eq_false_iff_ne.mpr h
   simp only [List.lookup,hb,if_neg h]
 | (k,x) :: r=>by
  have ih:=Uc f g v r
  rw [show Zl f v ((k,x) :: r)=(if k=f then (k,v) :: r else (k,x) :: Zl f v r) from rfl]
  by_cases hk:k=f
  ·rw [if_pos hk]
   by_cases h:g=k
   ·have hb:(g == k)=true:=beq_iff_eq.mpr h
    simp only [List.lookup,hb,if_pos (h.trans hk)]
   ·have hb:(g == k)=false:=beq_eq_false_iff_ne.mpr h
    simp only [List.lookup,hb,if_neg (fun e:g=f=>h (e.trans hk.symm))]
  ·rw [if_neg hk]
   by_cases h:g=k
   ·have hb:(g == k)=true:=beq_iff_eq.mpr h
    simp only [List.lookup,hb,if_neg (fun e:g=f=>hk (h.symm.trans e))]
   ·have hb:(g == k)=false:=beq_eq_false_iff_ne.mpr h
    simp only [List.lookup,hb]
    exact ih
theorem YX (f:Str) (v:V):∀ fs:List (Str × V),f ∈ (Zl f v fs).map (·.1)∧∀ g,g ∈ fs.map (·.1)→g ∈ (Zl f v fs).map (·.1)
 | []=>⟨by simp [Zl],fun g h=>by simp at h⟩
 | (k,x) :: r=>by
  obtain ⟨i1,i2⟩:=YX f v r
  rw [show Zl f v ((k,x) :: r)=(if k=f then (k,v) :: r else (k,x) :: Zl f v r) from rfl]
  by_cases hk:k=f
  ·rw [if_pos hk]
   subst hk
   exact ⟨by simp,fun g h=>by simpa using h⟩
  ·rw [if_neg hk]
   refine ⟨?_,fun g h=>?_⟩
   ·rw [List.map_cons]
    exact List.mem_cons_of_mem _ i1
   ·rw [List.map_cons] at h ⊢
    rcases List.mem_cons.mp h with e | e
    ·exact List.mem_cons.mpr (.inl e)
    ·exact List.mem_cons_of_mem _ (i2 g e)
theorem Ua (f:Str) (v:V):∀ fs:List (Str × V),(Zl f v fs).length≤fs.length + 1
 | []=>by simp [Zl]
 | (k,x) :: r=>by
  have ih:=Ua f v r
  rw [show Zl f v ((k,x) :: r)=(if k=f then (k,v) :: r else (k,x) :: Zl f v r) from rfl]
  by_cases hk:k=f
  ·rw [if_pos hk,List.length_cons,List.length_cons];lia
  ·rw [if_neg hk,List.length_cons,List.length_cons];lia
theorem RelO.some_of {v:V} {o:Option Value} (r:RelO (some v) o):∃ u,o=some u∧RelV v u:=by
 cases o with
 | none=>exact (show False from r).elim
 | some u=>exact ⟨u,rfl,r⟩
theorem RelO.none_of {o:Option Value} (r:RelO none o):o=none:=by
 cases o with
 | none=>rfl
 | some u=>exact (show False from r).elim
theorem VE {v:V} {u:Value} (r:RelV v u):PySem.W.handedIn u=true:=by
 cases v with
 | non=>cases (show u=Value.none from r);rfl
 | bl b=>cases (show u=Value.bool b from r);rfl
 | int i=>obtain ⟨t,e⟩:=(show ∃ t,u=Value.int i t from r);cases e;rfl
 | str x=>obtain ⟨t,e⟩:=(show ∃ t,u=Value.str x t from r);cases e;rfl
 | byt b=>obtain ⟨t,e⟩:=(show ∃ t,u=Value.bytes b t from r);cases e;rfl
 | flt b=>obtain ⟨t,e⟩:=(show ∃ t,u=Value.float b t from r);cases e;rfl
 | ref a=>cases (show u=Value.ref a from r);rfl
 | ty n=>cases (show u=Value.type n from r);rfl
section
variable {P:Program} {w:World} {H H':Hp} {h h':Heap} {a C dx:Addr} {fs fs':List (Str × V)}
theorem Uv (hok:HOk P w H h) (e:H a=some (.ins C dx fs)):∃ mA,ObjM h a dx C mA∧(∀ f,RelO (fs.lookup f) (mA f))∧PySem.Within mA (fs.map (·.1))∧fs.length≤1000∧H dx=some (.own a):=by
 obtain ⟨d,z,ne,ob,mA,n,r,q⟩:=(show ObjOk P w H h a (.ins C dx fs) from hok a _ e)
 exact ⟨mA,⟨ob,n,ne⟩,r,q,z,d⟩
end
structure Cls (K:PySem.W.Frag) (C:Addr):Prop where
 pg:PySem.W.plainGet K C Str.empty=true
 hd:PySem.W.hasDictIn K C=true
 po:PySem.W.plainOver K C=true
 sa:PySem.W.findIn K (.ref C) "__setattr__" = some (some (.builtin "object.__setattr__"))
theorem Cls.get {K:PySem.W.Frag} {C:Addr} (c:Cls K C) (f:Str):PySem.W.plainGet K C f=true:=c.pg
def NoAttr (K:PySem.W.Frag) (C:Addr) (f:Str):Prop:=PySem.W.findIn K (.ref C) f=some none
theorem NoAttr.taker {K:PySem.W.Frag} {C:Addr} {f:Str} (n:NoAttr K C f):PySem.W.takerIn K C f=some none:=by
 unfold PySem.W.takerIn
 rw [show PySem.W.findIn K (.ref C) f=some none from n]
 rfl
structure Meth (K:PySem.W.Frag) (C:Addr) (m:Str) (f:Addr):Prop where
 at_:PySem.W.findIn K (.ref C) m=some (some (.ref f))
 fn:PySem.W.isFn K (.ref f)=true
 kp:PySem.W.keepIn K (.ref f)=true
section
variable {X:Cx} {pins:List (10:)} {σ:St} {H:Hp} {s:Shared} {a C dx:Addr} {fs:List (Str × V)} {f:Str} {v:V} {A:Around} {E:Value→Shared→Prop}
theorem X8 {b:Bool} {Q:Value→Shared→Prop} (I:Inv X pins σ H s) (e:H a=some (.ins C dx fs)) (c:Cls X.K C) (n:NoAttr X.K C f) (l:fs.lookup f=some v)
 (h:∀ u s',Inv X pins σ H s'→RelV v u→Q u s'):wpAny (6:) A (getAttr (.ref a) f b) Q E s:=by
 obtain ⟨mA,O,r,_,_,_⟩:=Uv I.hok e
 obtain ⟨u,hu,ru⟩:=RelO.some_of (v:=v) (o:=mA f) (by rw [← l];exact r f)
 exact Mp I.kIn O (c.get f) c.hd n hu (VE ru) (h u _ (I.tok _) ru)
theorem U1 {m:Str} {g:Addr} {pl:Sem Bool} {Q:Value × List Value→Shared→Prop} (I:Inv X pins σ H s) (e:H a=some (.ins C dx fs)) (c:Cls X.K C) (k:Meth X.K C m g) (l:fs.lookup m=none)
 (h:Q (.ref g,[.ref a]) s):wpAny (6:) A (getMethod (.ref a) m pl) Q E s:=by
 obtain ⟨mA,O,r,_,_,_⟩:=Uv I.hok e
 have hn:mA m=none:=RelO.none_of (by rw [← l];exact r m)
 exact V2 I.kIn O (c.get m) k.at_ k.fn hn h
theorem Wn {y:V} {u:Value} {Q:Unit→Shared→Prop} (I:Inv X pins σ H s) (e:H a=some (.ins C dx fs)) (c:Cls X.K C) (n:NoAttr X.K C f) (hl:fs.length < 1000) (ry:RelV y u)
 (h:∀ s',Inv X pins σ (upd H a (.ins C dx (Zl f y fs))) s'→Q () s'):wpAny (6:) A (setAttr (.ref a) f u) Q E s:=by
 obtain ⟨mA,O,r,wi,_,ho⟩:=Uv I.hok e
 have hz:(fs.map (·.1)).length≤sizeLine:=by rw [List.length_map,sizeLine_eq];lia
 refine Mr I.kIn O c.sa c.po n.taker c.hd wi hz fun h' O' sb=>h _ ?_
 have hd:∃ o,h'.get? dx=some o:=let ⟨o,_,_,e',_⟩:=O'.ns;⟨o,e'⟩
 refine I.write (x:=a) (e:=dx) (by rw [e];exact True.intro) (.inr ho) (fun b q hb z=>(sb.2 b hb).trans z) hd ?_
 refine ⟨by rw [Qj O.ne];exact ho,?_,O.ne,O'.obj,_,O'.ns,fun g=>?_,fun g hg=>?_⟩
 ·have:=Ua f y fs;lia
 ·show RelO ((Zl f y fs).lookup g) (if g=f then some u else mA g)
  rw [Uc]
  by_cases q:g=f
  ·rw [if_pos q,if_pos q];exact ry
  ·rw [if_neg q,if_neg q];exact r g
 ·by_cases q:g=f
  ·rw [q];exact (YX f y fs).1
  ·refine (YX f y fs).2 g (wi g fun z=>hg ?_)
   show (if g=f then some u else mA g)=none
   rw [if_neg q];exact z
theorem Inv.made (I:Inv X pins σ H s):Inv X pins σ (upd (upd H s.heap.objs.size (.own (22:))) (22:) (.ins C s.heap.objs.size []))
 { s with heap:=(s.heap.push PySem.W.emptyDict).push (PySem.W.instObj C s.heap.objs.size) }:=by
 have e1:(s.heap.push PySem.W.emptyDict).get? s.heap.objs.size=some PySem.W.emptyDict:=Heap.get?_push_size s.heap rfl
 have e2:((s.heap.push PySem.W.emptyDict).push (PySem.W.instObj C s.heap.objs.size)).get? (22:)=some (PySem.W.instObj C s.heap.objs.size):=by
  have:=Heap.get?_push_size (s.heap.push PySem.W.emptyDict) (o:=PySem.W.instObj C s.heap.objs.size) rfl
  rwa [Heap.size_push] at this
 have e3:(s.heap.push PySem.W.emptyDict).Ns s.heap.objs.size (fun _=>none):=⟨PySem.W.emptyDict,#[],_,e1,rfl,(fun e he=>absurd he (27:)),fun _=>rfl⟩
 have I1:=I.laid (a:=s.heap.objs.size) (o:=.own (22:)) (h':=s.heap.push PySem.W.emptyDict) (t':=s.toks) (fun b u q=>Heap.get?_push_of_some _ q) (9:) ⟨_,e1⟩
 refine I1.laid (a:=s.heap.objs.size + 1) (o:=.ins C s.heap.objs.size []) (t':=s.toks) (fun b u q=>Heap.get?_push_of_some _ q) (Nat.le_of_eq (Heap.size_push _ _)) ?_
 have ne:s.heap.objs.size≠s.heap.objs.size + 1:=Nat.ne_of_lt (Nat.lt_succ_self _)
 refine ⟨by rw [Qj ne,Qc],Nat.zero_le _,ne,e2,fun _=>none,(Heap.Ns1.of_empty e3).at fun o q=>Heap.get?_push_of_some _ q,fun _=>True.intro,fun y hy=>absurd rfl hy⟩
theorem MB {prog:Program} {w:World} {env:Env} {e:Expr} {f:Str} {pos:Pos} {s:Shared} {Q:Value→Shared→Prop} (hb:attributeBase e f env (eval e env)=eval e env)
 (h:wpAny (26:) A (eval e env) (fun o s₁=>wpAny (26:) A (getAttr o f true) Q E s₁) E s):wpAny (26:) A (eval (.Attribute e f pos) env) Q E s :=
 Attribute_any_ h (by rw [arm_eval_Attribute,hb])
end
def Pl (K:PySem.W.Frag) (ta:TE) (f:Str):TE:=fun σ H Q=>ta σ H fun x H1=>∃ a C dx fs v,x=.ref a∧H1 a=some (.ins C dx fs)∧Cls K C∧NoAttr K C f∧fs.lookup f=some v∧Q v H1
def O8 (K:PySem.W.Frag) (ta tv:TE) (f:Str):TS:=fun D σ H=>tv σ H fun y H1=>ta σ H1 fun x H2=>∃ a C dx fs,x=.ref a∧H2 a=some (.ins C dx fs)∧Cls K C∧NoAttr K C f∧fs.length < 1000 ∧
 D.nx σ (upd H2 a (.ins C dx (Zl f y fs)))
section
variable {X:Cx} {o e value:Expr} {f:Str} {pos pos' tpos:Pos} {ta tv:TE}
theorem QY (he:PE X e ta) (hb:attributeBase e f X.env (eval e X.env)=eval e X.env):PE X (.Attribute e f pos) (Pl X.K ta f):=by
 intro pins s σ H Q I h
 refine MB hb (thn (he pins s σ H _ I h) fun u s1 ⟨x,H1,I1,rx,a,C,dx,fs,v,ex,ea,c,n,l,q⟩=>?_)
 subst ex
 obtain rfl:u=Value.ref a:=rx
 exact X8 I1 ea c n l fun u' s2 I2 ru=>⟨v,H1,I2,ru,q⟩
theorem Y1 (ha:PE X o ta) (hv:PE X value tv) (hs:swapsWith value (some (.Attribute o f pos')) pos.line X.env=pure false):PS X (.Assign [.Attribute o f pos'] value pos) (O8 X.K ta tv f):=by
 intro pins s σ H D I h
 refine plainObj_wpAny_Assign_Attribute (thn (hv pins s σ H _ I h) fun u s1 ⟨y,H1,I1,ry,q⟩=>thn (ha pins s1 σ H1 _ I1 q) fun ov s2 ⟨x,H2,I2,rx,a,C,dx,fs,ex,ea,c,n,l,q2⟩=>?_) hs
 subst ex
 obtain rfl:ov=Value.ref a:=rx
 exact Wn I2 ea c n l ry fun s3 I3=>⟨σ,_,I3,q2⟩
end
section
variable {X:Cx} {pins:List (10:)} {σ:St} {H:Hp} {s:Shared} {A:Around} {E:Value→Shared→Prop} {Q:Value→Shared→Prop} {c:Value} {b:Bool}
inductive TyOf (K:PySem.W.Frag) (H:Hp):V→Value→Prop where
 | non:TyOf K H .non (.type "NoneType")
 | bl (x:Bool):TyOf K H (.bl x) (.type "bool")
 | int (i:Int):TyOf K H (.int i) (.type "int")
 | str (x:Str):TyOf K H (.str x) (.type "str")
 | flt (x:UInt64):TyOf K H (.flt x) (.type "float")
 | lst {a:Addr} {xs:List V} (e:H a=some (.lst xs)):TyOf K H (.ref a) (.type "list")
 | frz {a:Addr} {o:Obj} {xs:List V} (e:H a=some (.frz o (.lst xs))):TyOf K H (.ref a) (.type "list")
 | tup {a:Addr} {xs:List V} (e:H a=some (.tup xs)):TyOf K H (.ref a) (.type "tuple")
 | dK {a:Addr} {kvs:List (Key × V)} (e:H a=some (.dK kvs)):TyOf K H (.ref a) (.type "dict")
 | dT {a:Addr} {kvs:List (List Key × V)} (e:H a=some (.dT kvs)):TyOf K H (.ref a) (.type "dict")
 | ins {a C dx:Addr} {fs:List (Str × V)} (e:H a=some (.ins C dx fs)) (cl:Cls K C) (ha:PySem.W.findIn K (.ref C) "__class__" = some (some (.builtin "object.__class__")))
  (hn:PySem.W.specialIn K (.builtin "object.__class__") "__get__" = some (some (.builtin "getset_descriptor.__get__"))) (htk:PySem.W.takesIn K (.builtin "object.__class__")=some true)
  (hm:PySem.W.mroIn K C (.type "object")=some true):TyOf K H (.ref a) (.ref C)
theorem VF {x:V} {u t:Value} (I:Inv X pins σ H s) (rx:RelV x u) (ty:TyOf X.K H x t) (e:PySem.W.kitOne X.K t c=some b) (h:∀ tk,Q (.bool b) { s with toks:=tk }) :
 wpAny (6:) A (call (.builtin "isinstance") [u,c]) Q E s:=by
 cases ty with
 | non=>cases (show u=Value.none from rx);exact PySem.W.kia_one PySem.W.kitx_none I.kIn True.intro e (fun z=>nomatch z) h
 | bl y=>cases (show u=Value.bool y from rx);exact PySem.W.kia_one PySem.W.kitx_bool I.kIn True.intro e (fun z=>nomatch z) h
 | int i=>obtain ⟨t,q⟩:=(show ∃ t,u=Value.int i t from rx);cases q;exact PySem.W.kia_one PySem.W.kitx_int I.kIn True.intro e (fun z=>nomatch z) h
 | str y=>obtain ⟨t,q⟩:=(show ∃ t,u=Value.str y t from rx);cases q;exact PySem.W.kia_one PySem.W.kitx_str I.kIn True.intro e (fun z=>nomatch z) h
 | flt y=>obtain ⟨t,q⟩:=(show ∃ t,u=Value.float y t from rx);cases q;exact PySem.W.kia_one PySem.W.kitx_float I.kIn True.intro e (fun z=>nomatch z) h
 | @lst a xs ea =>
  cases (show u=Value.ref a from rx)
  obtain ⟨_,_,n,_,h1⟩:=(show ObjOk X.prog X.w H s.heap a (.lst xs) from I.hok a _ ea)
  exact PySem.W.kia_one PySem.W.kitx_list I.kIn ⟨_,h1,rfl⟩ e (44:) h
 | @frz a ob xs ea =>
  cases (show u=Value.ref a from rx)
  obtain ⟨_,_,_,n,_,h1⟩:=(show ObjOk X.prog X.w H s.heap a (.frz ob (.lst xs)) from I.hok a _ ea)
  exact PySem.W.kia_one PySem.W.kitx_list I.kIn ⟨_,h1,rfl⟩ e (44:) h
 | @tup a xs ea =>
  cases (show u=Value.ref a from rx)
  obtain ⟨_,_,_,p⟩:=(show ObjOk X.prog X.w H s.heap a (.tup xs) from I.hok a _ ea)
  obtain ⟨o,h1,h2,_⟩:=p
  exact PySem.W.kia_one PySem.W.kitx_tuple I.kIn ⟨o,h1,h2⟩ e (44:) h
 | @dK a kvs ea =>
  cases (show u=Value.ref a from rx)
  obtain ⟨_,_,vs,_,p⟩:=(show ObjOk X.prog X.w H s.heap a (.dK kvs) from I.hok a _ ea)
  obtain ⟨o,es,ep,h1,h2,_⟩:=p
  exact PySem.W.kia_one PySem.W.kitx_dict I.kIn ⟨o,h1,h2.1⟩ e (44:) h
 | @dT a kvs ea =>
  cases (show u=Value.ref a from rx)
  obtain ⟨_,_,xs,_,o,es,ep,h1,h2,_⟩:=(show ObjOk X.prog X.w H s.heap a (.dT kvs) from I.hok a _ ea)
  exact PySem.W.kia_one PySem.W.kitx_dict I.kIn ⟨o,h1,h2.1⟩ e (44:) h
 | @ins a C dx fs ea cl ha hn htk hm =>
  cases (show u=Value.ref a from rx)
  obtain ⟨mA,O,_⟩:=Uv I.hok ea
  obtain ⟨od,J,_⟩:=O.look
  exact PySem.W.kia_one (PySem.W.kitx_own (cl.get _) cl.hd ha hn htk hm) I.kIn J e (44:) h
end
end L2
namespace L2
open PySem PySem.Spec PyProof.Rows
structure Room (k:Nat) (A:Around):Prop where
 hd:A.handled=none
 dp:A.depth + 3 * k + 5 < recursionLimit
 un:A.units + 16 * k + 200 < cLine
theorem Room.mono {j k:Nat} {A:Around} (r:Room k A) (h:j≤k):Room j A:=⟨r.hd,by have:=r.dp;lia,by have:=r.un;lia⟩
theorem Room.deeper {k:Nat} {A:Around} (r:Room (k + 1) A) (env:Env):Room k (A.deeper env) :=
 ⟨r.hd,by have:=r.dp;show A.depth + 1 + 3 * k + 5 < _;lia,by have:=r.un;show A.units + 3 + 16 * k + 200 < _;lia⟩
theorem Wz {A:Around} {C:Addr} {us:List Value} {kw:List (Str × Value)}:(A.under (.builtin "type.__call__" ⟨.ref C :: us,kw⟩)).depth=A.depth + 1:=by
 first | rfl | simp [Around.under,Code.weight,Code.isCreation,Code.isGuard,Code.isCaller,Code.frames,Code.isFrame,guardIds]
theorem WO {A:Around} {C:Addr} {us:List Value} {kw:List (Str × Value)}:(A.under (.builtin "type.__call__" ⟨.ref C :: us,kw⟩)).units=A.units + 1:=by
 first | rfl | simp [Around.under,Code.cUnits,Code.frames,Code.isFrame]
theorem Room.make {k:Nat} {A:Around} (r:Room (k + 1) A) (C:Addr) (us:List Value) (kw:List (Str × Value)):Room k (A.under (.builtin "type.__call__" ⟨.ref C :: us,kw⟩)) :=
 ⟨r.hd,by have:=r.dp;rw [Wz];lia,by have:=r.un;rw [WO];lia⟩
theorem Room.depth {k:Nat} {A:Around} (r:Room k A):A.depth < recursionLimit:=by have:=r.dp;lia
theorem Room.units {k:Nat} {A:Around} (r:Room k A):A.units + 64 < cLine:=by have:=r.un;lia
def Yu:TA:=fun _ H Q=>Q [] H
def Zd (ta:TE) (tr:TA):TA:=fun σ H Q=>ta σ H fun x H1=>tr σ H1 fun xs H2=>Q (x :: xs) H2
section
variable {X:Cx} {e:Expr} {es:List Expr} {te:TE} {t:TA} {pos:Pos}
theorem Qd:PA X [] Yu:=fun _ _ _ _ H Q I h=>Calls.spliced_nil ⟨[],H,I,.nil,h⟩
theorem Qa (ha:PE X e te) (hr:PA X es t) (hs:starEach (e :: es) X.env=(false,eval e X.env) :: starEach es X.env:=by rfl):PA X (e :: es) (Zd te t):=by
 intro pos pins s σ H Q I h
 rw [hs]
 show wpAny _ _ (spliced ((false,eval e X.env) :: backTo pos (starEach es X.env))) _ _ s
 refine Calls.spliced_cons (thn (ha pins s σ H _ I h) fun u s1 ⟨x,H1,I1,r1,q1⟩=>?_)
 exact thn (hr pos pins s1 σ H1 _ I1 q1) fun us s2 ⟨xs,H2,I2,r2,q2⟩=>⟨x :: xs,H2,I2,.cons r1 r2,q2⟩
def Vy (t:TA):TE:=fun σ H Q=>t σ H fun xs H1=>xs.length≤sizeLine∧∀ p,H1 p=none→Q (.ref p) (upd H1 p (.tup xs))
def O4 (t:TA):TE:=fun σ H Q=>t σ H fun xs H1=>xs.length≤sizeLine∧∀ p,H1 p=none→Q (.ref p) (upd H1 p (.lst xs))
theorem Qv {x1} (h:PA X es t):PE X (.Tuple es x1 pos) (Vy t):=by
 intro pins s σ H Q I hq
 refine wpAny_Tuple_spliced (thn (h pos pins s σ H _ I hq) fun us s1 ⟨xs,H1,I1,r,z,q⟩=>⟨by rw [← r.length];exact z,?_⟩)
 have hf:H1 s1.heap.objs.size=none:=I1.hok.fresh (9:)
 refine ⟨.ref s1.heap.objs.size,upd H1 s1.heap.objs.size (.tup xs),I1.laid (t':=s1.toks) (fun b u e=>Heap.get?_push_of_some _ e) (9:) ?_,rfl,q _ hf⟩
 exact ⟨z,us,r,⟨_,Heap.get?_push_size _ rfl,rfl,_,rfl⟩⟩
theorem QM (h:PA X es t):PE X (.List es pos) (O4 t):=by
 intro pins s σ H Q I hq
 refine wpAny_List_spliced (thn (h pos pins s σ H _ I hq) fun us s1 ⟨xs,H1,I1,r,z,q⟩=>⟨by rw [← r.length];exact z,?_⟩)
 have hf:H1 s1.heap.objs.size=none:=I1.hok.fresh (9:)
 refine ⟨.ref s1.heap.objs.size,upd H1 s1.heap.objs.size (.lst xs),I1.laid (t':=s1.toks) (fun b u e=>Heap.get?_push_of_some _ e) (9:) ?_,rfl,q _ hf⟩
 exact ⟨z,us,0,r,Heap.get?_push_size _ rfl⟩
end
abbrev Sp:=List V→Hp→VK→XK→Prop
abbrev CXT:=List Env→Hp→Shared→XK→Value→Shared→Prop
structure Env0 (P:Program) (w:World) (K:PySem.W.Frag) (mg:Str→Option Value) (base:Heap) (A:Around) (outer:List Env) (s:Shared) (H:Hp):Prop where
 frames:A.frames=some outer
 mod:Mod K mg base
 bs:∀ b o,base.get? b=some o→s.heap.get? b=some o∧H b=none
 bsz:base.objs.size≤s.heap.objs.size
 funs:s.heap.FunFrames base outer
 frf:∀ b ∈ frs outer,H b=none
 hok:HOk P w H s.heap
 bare:AllBare s.gens
def CE (outer:List Env) (P:Program) (w:World) (H:Hp) (s:Shared) (Q:VK) (u:Value) (s':Shared):Prop :=
 ∃ v H',s'.os=s.os∧AllBare s'.gens∧Un (frs outer) [] H H' s.heap s'.heap∧HOk P w H' s'.heap∧RelV v u∧Q v H'
def CR (CX:CXT) (outer:List Env) (P:Program) (w:World) (H:Hp) (s:Shared) (Q:VK) (E:XK) (r:Result) (s':Shared):Prop :=
 match r with
 | .ok (.ret u)=>CE outer P w H s Q u s'
 | .ok _=>False
 | .error e=>CX outer H s E e s'
structure FnOk (P:Program) (w:World) (K:PySem.W.Frag) (mg:Str→Option Value) (base:Heap) (CX:CXT) (k:Nat) (f:Addr) (fd:FuncData) (ps:List Str) (sp:Sp):Prop where
 len:∀ vs H Q E,sp vs H Q E→vs.length=ps.length
 run:∀ (A:Around) (outer:List Env) (s:Shared) (H:Hp) (args:Args) (us:List Value) (vs:List V) (Q:VK) (E:XK),Room k A→Env0 P w K mg base A outer s H→BindsTo s fd args (ps.zip us)→Vals vs us→sp vs H Q E →
  codeAny (model P w) A (.call (.ref f) args) (CR CX outer P w H s Q E) s
theorem Env0.make {P:Program} {w:World} {K:PySem.W.Frag} {mg:Str→Option Value} {base:Heap} {A:Around} {outer:List Env} {s:Shared} {H:Hp} (e:Env0 P w K mg base A outer s H) (C:Addr) (us:List Value) (kw:List (Str × Value)) :
 Env0 P w K mg base (A.under (.builtin "type.__call__" ⟨.ref C :: us,kw⟩)) outer s H:=⟨by first | exact e.frames | (simpa [Around.under,Code.envs,Code.isFrame,pushEnvs] using e.frames),e.mod,e.bs,e.bsz,e.funs,e.frf,e.hok,e.bare⟩
section
variable {X:Cx} {pins:List (10:)} {σ:St} {H:Hp} {s s':Shared}
theorem Inv.env0 (I:Inv X pins σ H s):Env0 X.prog X.w X.K X.mg X.base X.A X.stack s H :=
 ⟨I.ok.frames,I.ok.mod,I.bs,Nat.le_trans I.ok.bsz I.sz,I.stack,I.stkFree,I.hok,I.bare⟩
theorem Inv.after {Q:VK} {u:Value} (I:Inv X pins σ H s) (h:CE X.stack X.prog X.w H s Q u s'):EP X pins σ Q u s':=by
 obtain ⟨v,H',os,bare,un,hok,r,q⟩:=h
 obtain ⟨hh,g,d,t,os'⟩:=s'
 obtain rfl:os'=s.os:=os
 exact ⟨v,H',I.call (h':=hh) (g':=g) (d':=d) (t':=t) (ch:=[]) un hok bare (fun b z=>absurd z (27:)),r,q⟩
end
def GT (sp:Sp) (dvs:List V) (E:XK) (t:TA):TE:=fun σ H Q=>t σ H fun vs H1=>sp (vs ++ dvs) H1 Q E
def MU (C:Addr) (m:Str) (sp:Sp) (dvs:List V) (E:XK) (ta:TE) (t:TA):TE:=fun σ H Q=>ta σ H fun x H1=>∃ a dx fs,x=.ref a∧H1 a=some (.ins C dx fs)∧fs.lookup m=none ∧
 t σ H1 fun vs H2=>sp (x :: (vs ++ dvs)) H2 Q E
def OI (C:Addr) (sp:Sp) (dvs:List V) (E:XK) (t:TA):TE:=fun σ H Q=>t σ H fun vs H1=>∀ x dx,H1 x=none→H1 dx=none→dx≠x →
 sp (.ref x :: (vs ++ dvs)) (upd (upd H1 dx (.own x)) x (.ins C dx [])) (fun v H2=>v=.non∧Q (.ref x) H2) E
def Binds (K:PySem.W.Frag) (fd:FuncData) (ps:List Str) (ds:List Value):Prop :=
 ∀ (s:Shared) (us:List Value),K.In s.heap→(us ++ ds).length=ps.length→BindsTo s fd ⟨us,[]⟩ (ps.zip (us ++ ds))
theorem Binds.all {K:PySem.W.Frag} {fd:FuncData} {ps:List Str} (h:∀ us:List Value,us.length=ps.length→bindArgs fd ⟨us,[]⟩=pure (ps.zip us)):Binds K fd ps []:=fun s us _ hl=>by
 rw [List.append_nil] at hl ⊢
 exact .of_eq (h us hl)
def Ys (CX:CXT) (X:Cx) (E:XK):Prop:=∀ (pins:List (10:)) (σ:St) (H:Hp) (s:Shared) (e:Value) (s':Shared),Inv X pins σ H s→CX X.stack H s E e s'→X.xe e s'
section
variable {X:Cx} {CX:CXT} {k:Nat} {f C:Addr} {fd:FuncData} {ps:List Str} {sp:Sp} {dvs:List V} {ds:List Value} {E:XK} {x m:Str} {p pos apos:Pos} {e o:Expr} {es:List Expr} {ta:TE} {t:TA}
theorem X5 {pins:List (10:)} {σ:St} {H:Hp} {s:Shared} {Q:VK} {us:List Value} {vs:List V} (F:FnOk X.prog X.w X.K X.mg X.base CX k f fd ps sp) (hr:Room k X.A) (hb:Binds X.K fd ps ds) (hd:Vals dvs ds) (hx:Ys CX X E)
 (I:Inv X pins σ H s) (r:Vals vs us) (h:sp (vs ++ dvs) H Q E):wpAny (6:) X.A (call (.ref f) us) (EP X pins σ Q) X.xe s:=by
 have r2:Vals (vs ++ dvs) (us ++ ds):=r.append hd
 have hl:(us ++ ds).length=ps.length:=by rw [← r2.length];exact F.len _ _ _ _ h
 refine wpAny_call (codeAny_mono (F.run X.A X.stack s H ⟨us,[]⟩ (us ++ ds) (vs ++ dvs) Q E hr I.env0 (hb s us I.kIn hl) r2 h) fun r s' hq=>?_)
 cases r with
 | error e=>exact hx pins σ H s e s' I hq
 | ok fl =>
  cases fl with
  | ret u=>exact I.after hq
  | next=>exact False.elim hq
  | brk=>exact False.elim hq
  | cont=>exact False.elim hq
theorem LM (F:FnOk X.prog X.w X.K X.mg X.base CX k f fd ps sp) (hr:Room k X.A) (hg:Gl X x) (hm:X.mg x=some (.ref f)) (hk:PySem.W.keepIn X.K (.ref f)=true) (hb:Binds X.K fd ps ds) (hd:Vals dvs ds) (hx:Ys CX X E)
 (ha:PA X (e :: es) t) (hdb:(49:)=false:=by decide) (he:starEach (e :: es) X.env=(false,eval e X.env) :: starEach es X.env:=by rfl) (hpl:(backTo pos (starEach es X.env)).any (·.1)=false:=by rfl) :
 PE X (.Call (.Name x p) (e :: es) [] pos) (GT sp dvs E t):=by
 intro pins s σ H Q I h
 refine wpAny_Call_Name_kw (JP I hg hm ?_ hdb)
 refine PySem.W.callWith_K (h₀:=X.base) I.ok.mod.kin hk (thn (ha pos pins s σ H _ I h) fun us s1 ⟨vs,H1,I1,r,q⟩=>⟨I1.kIn,?_⟩) he hpl
 exact X5 F hr hb hd hx I1 r q
theorem Yh {pl:Sem Bool} (he:PE X o ta) (c:Cls X.K C) (hm:Meth X.K C m f) (F:FnOk X.prog X.w X.K X.mg X.base CX k f fd ps sp) (hr:Room k X.A) (hb:Binds X.K fd ps ds) (hd:Vals dvs ds) (hx:Ys CX X E) (ha:PA X (e :: es) t)
 (hst:starEach (e :: es) X.env=(false,eval e X.env) :: starEach es X.env:=by rfl) (hpl:(backTo pos (starEach es X.env)).any (·.1)=false:=by rfl)
 (ht:eval (.Call (.Attribute o m apos) (e :: es) [] pos) X.env=(do
  let ov ← eval o X.env
  standAt apos.atName
  let (f,first) ← holding [ov] (getMethod ov m pl)
  callWith pos f first (backTo pos (starEach (e :: es) X.env)) (backToKw pos (keywordEach [] X.env))):=by rfl) :
 PE X (.Call (.Attribute o m apos) (e :: es) [] pos) (MU C m sp dvs E ta t):=by
 intro pins s σ H Q I h
 refine PySem.W.methodCall_KW (pl:=pl) (thn (he pins s σ H _ I h) fun u s1 ⟨x,H1,I1,rx,a,dx,fs,ex,ea,l,q⟩=>?_) ht
 subst ex
 obtain rfl:u=Value.ref a:=rx
 refine U1 I1 ea c hm l ?_
 refine PySem.W.callWith_K (first:=[.ref a]) (h₀:=X.base) I.ok.mod.kin hm.kp (thn (ha pos pins s1 σ H1 _ I1 q) fun us s2 ⟨vs,H2,I2,r,q2⟩=>⟨I2.kIn,?_⟩) hst hpl
 exact X5 (us:=.ref a :: us) (vs:=.ref a :: vs) F hr hb hd hx I2 (.cons rfl r) q2
theorem La {pl:Sem Bool} (he:PE X o ta) (c:Cls X.K C) (hm:Meth X.K C m f) (F:FnOk X.prog X.w X.K X.mg X.base CX k f fd ps sp) (hr:Room k X.A) (hb:Binds X.K fd ps ds) (hd:Vals dvs ds) (hx:Ys CX X E)
 (ht:eval (.Call (.Attribute o m apos) [] [] pos) X.env=(do
  let ov ← eval o X.env
  standAt apos.atName
  let (f,first) ← holding [ov] (getMethod ov m pl)
  callWith pos f first (backTo pos (starEach [] X.env)) (backToKw pos (keywordEach [] X.env))):=by rfl) :
 PE X (.Call (.Attribute o m apos) [] [] pos) (MU C m sp dvs E ta Yu):=by
 intro pins s σ H Q I h
 refine PySem.W.methodCall_KW (pl:=pl) (thn (he pins s σ H _ I h) fun u s1 ⟨x,H1,I1,rx,a,dx,fs,ex,ea,l,q⟩=>?_) ht
 subst ex
 obtain rfl:u=Value.ref a:=rx
 refine U1 I1 ea c hm l ?_
 exact PySem.W.callWith_K0 (first:=[.ref a]) I1.kIn hm.kp (X5 (us:=[.ref a]) (vs:=[.ref a]) F hr hb hd hx I1 (.cons rfl .nil) q)
structure Mk (K:PySem.W.Frag) (C f:Addr):Prop where
 makes:PySem.W.makesIn K C=true
 init:PySem.W.findIn K (.ref C) "__init__" = some (some (.ref f))
 fn:PySem.W.isFn K (.ref f)=true
 kp:PySem.W.keepIn K (.ref C)=true
theorem G5 {pins:List (10:)} {σ:St} {H:Hp} {s:Shared} {Q:VK} {us:List Value} {vs:List V} (M:Mk X.K C f) (F:FnOk X.prog X.w X.K X.mg X.base CX k f fd ps sp) (hr:Room (k + 1) X.A) (hb:Binds X.K fd ps ds) (hd:Vals dvs ds)
 (hx:Ys CX X E) (I:Inv X pins σ H s) (r:Vals vs us)
 (h:∀ x dx,H x=none→H dx=none→dx≠x→sp (.ref x :: (vs ++ dvs)) (upd (upd H dx (.own x)) x (.ins C dx [])) (fun v H2=>v=.non∧Q (.ref x) H2) E) :
 wpAny (6:) X.A (call (.ref C) us) (EP X pins σ Q) X.xe s:=by
 have hq:=h (22:) s.heap.objs.size (I.hok.fresh (Nat.le_succ _)) (I.hok.fresh (9:)) (Nat.ne_of_lt (Nat.lt_succ_self _))
 have I2:=Inv.made (C:=C) I
 have r2:Vals (V.ref (22:) :: (vs ++ dvs)) (Value.ref (22:) :: (us ++ ds)):=.cons rfl (r.append hd)
 have hl:(Value.ref (22:) :: us ++ ds).length=ps.length:=by
  have e:=r2.length
  rw [F.len _ _ _ _ hq] at e
  exact e.symm
 refine wpAny_call (GU (f:=f) I.kIn M.makes M.init (beq_iff_eq.mp M.fn) (codeAny_mono (F.run _ X.stack _ _ ⟨Value.ref (22:) :: us,[]⟩ (Value.ref (22:) :: (us ++ ds)) _ _ E (hr.make C us [])
  (I2.env0.make C us []) (hb _ (Value.ref (22:) :: us) I2.kIn hl) r2 hq) fun r s' hq'=>?_))
 cases r with
 | error e=>exact hx pins σ _ _ e s' I2 hq'
 | ok fl =>
  cases fl with
  | ret u =>
   obtain ⟨v,H',I3,rv,ev,q3⟩:=I2.after hq'
   subst ev
   exact ⟨rv,⟨V.ref (22:),H',I3,rfl,q3⟩⟩
  | next=>exact False.elim hq'
  | brk=>exact False.elim hq'
  | cont=>exact False.elim hq'
theorem Ml (M:Mk X.K C f) (F:FnOk X.prog X.w X.K X.mg X.base CX k f fd ps sp) (hr:Room (k + 1) X.A) (hg:Gl X x) (hm:X.mg x=some (.ref C)) (hb:Binds X.K fd ps ds) (hd:Vals dvs ds) (hx:Ys CX X E)
 (ha:PA X (e :: es) t) (hdb:(49:)=false:=by decide) (he:starEach (e :: es) X.env=(false,eval e X.env) :: starEach es X.env:=by rfl) (hpl:(backTo pos (starEach es X.env)).any (·.1)=false:=by rfl) :
 PE X (.Call (.Name x p) (e :: es) [] pos) (OI C sp dvs E t):=by
 intro pins s σ H Q I h
 refine wpAny_Call_Name_kw (JP I hg hm ?_ hdb)
 refine PySem.W.callWith_K (h₀:=X.base) I.ok.mod.kin M.kp (thn (ha pos pins s σ H _ I h) fun us s1 ⟨vs,H1,I1,r,q⟩=>⟨I1.kIn,?_⟩) he hpl
 exact G5 M F hr hb hd hx I1 r q
end
section
variable {X:Cx} {CX:CXT} {k:Nat} {f C:Addr} {fd:FuncData} {ps ks:List Str} {sp:Sp} {E:XK} {x m:Str} {p pos apos kpos:Pos} {e o:Expr} {es:List Expr} {kws:List Keyword} {te ta:TE} {t tk:TA} {nm:Option Str}
variable {g:List Value→List Value→List Value} {gV:List V→List V→List V}
end
structure FnScope (N P:List Str) (sc:Scope):Prop where
 kind:sc.kind=.function
 co:sc.isCoroutine=false
 gen:sc.isGenerator=false
 nd:N.Nodup
 pre:N.take P.length=P
 par:∀ x ∈ P,sc.names.lookup x=some .local∨sc.names.lookup x=some .cell
 nofree:∀ y ∈ sc.names,y.2≠.free
theorem Ju {kindOf:Str→Option NameKind} {x:Str}:∀ {binds:List (Str × Value)} {m:Str→Option Value},(∀ v,(x,v) ∉ binds)→bindL kindOf binds m x=m x
 | [],_,_=>rfl
 | (n,v) :: r,m,h=>by
  unfold bindL
  rw [Ju fun w hw=>h w (List.mem_cons_of_mem _ hw)]
  split
  ·have:x≠n:=by rintro rfl;exact h v List.mem_cons_self
   simp [this]
  ·rfl
theorem Jq {kindOf:Str→Option NameKind} {x:Str}:∀ {binds:List (Str × Value)} {m:Str→Option Value},(∀ v,(x,v) ∉ binds)→bindC kindOf binds m x=m x
 | [],_,_=>rfl
 | (n,v) :: r,m,h=>by
  unfold bindC
  rw [Jq fun w hw=>h w (List.mem_cons_of_mem _ hw)]
  split
  ·rfl
  ·have:x≠n:=by rintro rfl;exact h v List.mem_cons_self
   simp [this]
theorem Jz {kindOf:Str→Option NameKind} {x:Str} {v:Value}:∀ {P:List Str} {vs:List Value} {i:Nat} {m:Str→Option Value},P.Nodup→P[i]?=some x→vs[i]?=some v→kindOf x=some .local →
 bindL kindOf (P.zip vs) m x=some v
 | [],_,_,_,_,h,_,_=>by simp at h
 | _ :: _,[],_,_,_,_,h,_=>by simp at h
 | p :: P,w :: vs,0,m,nd,h1,h2,hk=>by
  simp at h1 h2;subst h1;subst h2
  show bindL kindOf ((p,w) :: P.zip vs) m p=_
  unfold bindL
  rw [Ju fun v hv=>(List.nodup_cons.mp nd).1 (List.of_mem_zip hv).1,if_pos hk]
  simp
 | p :: P,w :: vs,i + 1,m,nd,h1,h2,hk=>by
  show bindL kindOf ((p,w) :: P.zip vs) m x=_
  unfold bindL
  exact Jz (i:=i) (List.nodup_cons.mp nd).2 (by simpa using h1) (by simpa using h2) hk
theorem Jj {kindOf:Str→Option NameKind} {x:Str} {v:Value}:∀ {P:List Str} {vs:List Value} {i:Nat} {m:Str→Option Value},P.Nodup→P[i]?=some x→vs[i]?=some v→kindOf x≠some .local →
 bindC kindOf (P.zip vs) m x=some v
 | [],_,_,_,_,h,_,_=>by simp at h
 | _ :: _,[],_,_,_,_,h,_=>by simp at h
 | p :: P,w :: vs,0,m,nd,h1,h2,hk=>by
  simp at h1 h2;subst h1;subst h2
  show bindC kindOf ((p,w) :: P.zip vs) m p=_
  unfold bindC
  rw [Jq fun v hv=>(List.nodup_cons.mp nd).1 (List.of_mem_zip hv).1,if_neg hk]
  simp
 | p :: P,w :: vs,i + 1,m,nd,h1,h2,hk=>by
  show bindC kindOf ((p,w) :: P.zip vs) m x=_
  unfold bindC
  exact Jj (i:=i) (List.nodup_cons.mp nd).2 (by simpa using h1) (by simpa using h2) hk
def start (N:List Str) (vs:List V):St:=vs.map some ++ List.replicate (N.length - vs.length) none
def VB (CX:CXT) (P:Program) (w:World) (K:PySem.W.Frag) (mg:Str→Option Value) (base:Heap) (N:List Str) (qual:Str) (scope:Scope) (f:Addr) (cd:Value) (A:Around) (outer:List Env) (s:Shared) (H:Hp) (E:XK):Cx where
 prog:=P
 w:=w
 K:=K
 mg:=mg
 base:=base
 A:=A.deeper (envOfC qual scope s.heap.objs.size f cd)
 N:=N
 s₀:=s
 H₀:=H
 env:=envOfC qual scope s.heap.objs.size f cd
 outer:=outer
 stack:=envOfC qual scope s.heap.objs.size f cd :: outer
 ex:=[]
 calm:=true
 fn:=fun _=>true
 pn:=[]
 xe:=fun e s'=>wpAny (model P w) (A.deeper (envOfC qual scope s.heap.objs.size f cd)) (leaving (envOfC qual scope s.heap.objs.size f cd) e) (fun _ s''=>CX outer H s E e s'') (fun e' s''=>CX outer H s E e' s'') s'
theorem XE {sc:Scope} {n:Nat} {x:Str} (h:sc.names.lookup x=some .cell):∃ c,(cellsFrom n sc.names []).lookup x=some c:=by
 have q:=PySem.W.cellsFrom_some sc.names n [] (.inl h)
 exact Option.isSome_iff_exists.mp q
theorem VN {CX:CXT} {P:Program} {w:World} {K:PySem.W.Frag} {mg:Str→Option Value} {base:Heap} {N ps:List Str} {qual:Str} {scope:Scope} {f:Addr} {cd:Value} {A:Around} {outer:List Env} {s s1:Shared} {H:Hp} {E:XK} {us:List Value} {vs:List V}
 (S:FnScope N ps scope) (hd:A.handled=none) (e0:Env0 P w K mg base A outer s H) (hl:vs.length=ps.length) (r:Vals vs us)
 (x:InCallC s s.heap.objs.size (bindL (envOfC qual scope s.heap.objs.size f cd).kindOf (ps.zip us) fun _=>none) (cellsFrom (22:) scope.names []) (bindC (envOfC qual scope s.heap.objs.size f cd).kindOf (ps.zip us) fun _=>none) s1) :
 Inv (VB CX P w K mg base N qual scope f cd A outer s H E) [] (start N vs) H s1:=by
 have hpl:ps.length≤N.length:=by have:=congrArg List.length S.pre;rw [List.length_take] at this;lia
 obtain ⟨h1,tk,rfl,hk⟩:=x.done
 have noA:∀ b:Addr,b ∉ (VB CX P w K mg base N qual scope f cd A outer s H E).ex:=fun b z=>absurd (show b ∈ ([]:List Addr) from z) (27:)
 refine ⟨⟨e0.mod,S.kind,rfl,rfl,Nat.le_refl _,fun y z c h1 h2=>?_,fun y hy=>?_,fun y c _ h=>?_,fun _=>hd,Around.frames_deeper e0.frames,.inr ⟨rfl,rfl⟩,fun b z=>absurd z (noA b),e0.bs,e0.bsz,fun b _ _=>noA b,fun b z=>absurd z (noA b),e0.funs,e0.frf⟩,rfl,e0.bare,Un.kept hk,⟨_,x.toInCall.ns,fun i y v h1 h2 h3=>?_⟩,fun y c h=>⟨_,x.cell y c h⟩,e0.hok.fresh (9:),fun y c h=>?_,fun p hp=>absurd (show p ∈ ([]:List (10:)) from hp) (27:),e0.hok.kept hk,?_⟩
 ·exact name_of_addr x.apart (PySem.mem_of_lookup h1) (PySem.mem_of_lookup h2)
 ·have hy:scope.names.lookup y=some .cell∨scope.names.lookup y=some .free:=hy
  rcases hy with hy | hy
  ·exact XE hy
  ·exact absurd rfl (S.nofree _ (PySem.mem_of_lookup hy))
 ·exact Nat.le_of_lt (x.above y c (PySem.mem_of_lookup h))
 ·have hi:i < vs.length:=by
   unfold start at h2
   by_cases hi:i < vs.length
   ·exact hi
   ·rw [List.getElem?_append_right (by simpa using hi)] at h2
    rw [List.getElem?_replicate] at h2
    split at h2 <;> cases h2
  have ha:vs[i]?=some v:=by
   unfold start at h2
   rw [List.getElem?_append_left (by simpa using hi),List.getElem?_map] at h2
   cases e:vs[i]? with
   | none=>rw [e] at h2;cases h2
   | some a=>rw [e] at h2;cases h2;rfl
  obtain ⟨u,hu,rv⟩:=r.get ha
  have hp:ps[i]?=some y:=by
   rw [← S.pre,List.getElem?_take_of_lt (11:)];exact h1
  have ndP:ps.Nodup:=by rw [← S.pre];exact S.nd.sublist (List.take_sublist _ _)
  refine ⟨u,rv,?_⟩
  rcases S.par y (List.mem_of_getElem? hp) with k | k
  ·exact .inl ⟨k,Jz ndP hp hu k⟩
  ·obtain ⟨c,e⟩:=XE (n:=s.heap.objs.size + 1) k
   refine .inr ⟨.inl k,c,e,?_⟩
   have q:=x.cell y c e
   rw [Jj ndP hp hu (by show scope.names.lookup y≠_;rw [k];decide)] at q
   exact q
 ·exact e0.hok.fresh (Nat.le_of_lt (x.above y c (PySem.mem_of_lookup h)))
 ·unfold start
  show _=N.length
  rw [List.length_append,List.length_map,List.length_replicate]
  lia
theorem N0 {CX:CXT} {P:Program} {w:World} {K:PySem.W.Frag} {mg:Str→Option Value} {base:Heap} {k:Nat} {f:Addr} {name qual:Str} {params:Arguments} {body:List Stmt} {scope:Scope} {dV kV doc pm cdv ct oc:Value} {an od:Option Addr}
 {osl:Array (Option Value)} {N ps:List Str} {sp:Sp} (lk:K.lookup f=some ⟨oc,od,.func (PySem.W.fnOf name qual params body scope dV kV doc pm an cdv ct),osl⟩) (hcd:PySem.W.codeIn K cdv qual=true) (S:FnScope N ps scope)
 (len:∀ vs H Q E,sp vs H Q E→vs.length=ps.length)
 (hbody:∀ (A:Around) (outer:List Env) (s:Shared) (H:Hp) (vs:List V) (Q:VK) (E:XK),Room k (A.deeper (envOfC qual scope s.heap.objs.size f cdv))→sp vs H Q E →
  ∃ t,PSs (VB CX P w K mg base N qual scope f cdv A outer s H E) body t∧t { nx:=fun _ H'=>Q .non H',rt:=Q } (start N vs) H) :
 FnOk P w K mg base CX (k + 1) f (PySem.W.fnOf name qual params body scope dV kV doc pm an cdv ct) ps sp:=by
 refine ⟨len,fun A outer s H args us vs Q E hr e0 hb r hsp=>?_⟩
 have hl:=len _ _ _ _ hsp
 have KX:K.In s.heap:=e0.mod.kin.keeps fun b o e=>(e0.bs b o e).1
 have lim:s.heap.NoLimit:=e0.mod.nolimit.keeps fun b o e=>(e0.bs b o e).1
 have hkind:∀ y ∈ ps.zip us,scope.names.lookup y.1=some .local∨(scope.names.lookup y.1=some .cell∧((cellsFrom (22:) scope.names []).lookup y.1).isSome=true):=fun ⟨n,v⟩ hy=>by
  rcases S.par n (List.of_mem_zip hy).1 with q | q
  ·exact .inl q
  ·exact .inr ⟨q,PySem.W.cellsFrom_some _ _ _ (.inl q)⟩
 refine codeAny_call_function hr.depth (KX _ _ lk) rfl S.co S.gen rfl (PySem.W.codeRec_of KX hcd) (hb _ _ _ _ ?_)
 refine wpAny_newFunctionEnv_cells S.kind hkind fun env he s1 x=>?_
 subst he
 refine ⟨lim.keeps x.toInCall.keep,codeAny_func ?_⟩
 obtain ⟨t,ht,hq⟩:=hbody A outer s H vs Q E (hr.deeper _) hsp
 have I:Inv (VB CX P w K mg base N qual scope f cdv A outer s H E) [] (start N vs) H s1:=VN S hr.hd e0 hl r x
 refine wpAny_mono (ht [] s1 (start N vs) H _ I hq) (fun fl s' hs=>?_) fun e s' hs=>hs
 have fin:∀ {σ':St} {H':Hp} {v:V} {u:Value},Inv (VB CX P w K mg base N qual scope f cdv A outer s H E) [] σ' H' s'→RelV v u→Q v H'→CE outer P w H s Q u s' :=
  fun {σ' H' v u} J rv q=>⟨v,H',J.os,J.bare,J.base,J.hok,rv,q⟩
 cases fl with
 | ret u =>
  obtain ⟨v,σ',H',J,rv,q⟩:=hs
  exact fin J rv q
 | next =>
  obtain ⟨σ',H',J,q⟩:=hs
  exact fin (v:=V.non) (u:=Value.none) J rfl q
 | brk =>
  obtain ⟨_,_,_,q⟩:=hs
  exact False.elim q
 | cont =>
  obtain ⟨_,_,_,q⟩:=hs
  exact False.elim q
end L2
namespace L2
open PySem PySem.Spec PyProof.Rows
section
variable {X:Cx} {x:Str} {p pos:Pos} {e:Expr} {es:List Expr} {t:TA} {id T:String} {r:List V→Hp→VK→Prop}
def tCB (r:List V→Hp→VK→Prop) (t:TA):TE:=fun σ H Q=>t σ H fun vs H1=>r vs H1 Q
theorem Qr (hc:Ym X (.builtin id) r) (hg:Gl X x) (hm:X.mg x=none) (hv:bootBuiltins x=some (.builtin id)) (ha:PA X (e :: es) t) (hn:x ≠ "__name__" := by decide) (hdb:(49:)=false:=by decide)
 (he:starEach (e :: es) X.env=(false,eval e X.env) :: starEach es X.env:=by rfl) (hpl:(backTo pos (starEach es X.env)).any (·.1)=false:=by rfl):PE X (.Call (.Name x p) (e :: es) [] pos) (tCB r t):=by
 intro pins s σ H Q I h
 refine wpAny_Call_Name_kw (ZM I hg hm hv ?_ hn hdb)
 exact PyProof.Rows.callWith_builtin1 (thn (ha pos pins s σ H _ I h) fun us s1 ⟨vs,H1,I1,r1,q1⟩=>hc pins s1 σ H1 vs us Q I1 r1 q1) he hpl
theorem QE (hc:Ym X (.type T) r) (hg:Gl X x) (hm:X.mg x=none) (hv:bootBuiltins x=some (.type T)) (ha:PA X (e :: es) t) (hn:x ≠ "__name__" := by decide) (hdb:(49:)=false:=by decide)
 (he:starEach (e :: es) X.env=(false,eval e X.env) :: starEach es X.env:=by rfl) (hpl:(backTo pos (starEach es X.env)).any (·.1)=false:=by rfl):PE X (.Call (.Name x p) (e :: es) [] pos) (tCB r t):=by
 intro pins s σ H Q I h
 refine wpAny_Call_Name_kw (ZM I hg hm hv ?_ hn hdb)
 exact PyProof.Rows.callWith_type1 (thn (ha pos pins s σ H _ I h) fun us s1 ⟨vs,H1,I1,r1,q1⟩=>hc pins s1 σ H1 vs us Q I1 r1 q1) he hpl
end
end L2
namespace HT
open PySem PyProof.Rows
def MX:List Int→List Int→Bool
 | [],[]=>false
 | [],_ :: _=>true
 | _ :: _,[]=>false
 | x :: xs,y :: ys=>if x=y then MX xs ys else decide (x < y)
section
open PySem.SeqAt
open PySem.AutoSeq1 (wpAny_loadPart')
open PySem.MeetsSeq PySem.MeetsSeq2 PySem.MeetsSeq3
end
section
variable {prog:Program} {w:World} {A:Around} {E:Value→Shared→Prop} {s:Shared}
theorem cat_tup {t b:Addr} {vs ws:List Value} {Q:Value→Shared→Prop} (ht:IsTup s.heap t vs.toArray) (hb:IsTup s.heap b ws.toArray) (hv:vs≠[])
 (h1:ws=[]→Q (.ref t) s) (h2:ws≠[]→Q (.ref s.heap.objs.size) { s with heap:=s.heap.push { cls:=.type "tuple", data:=.seq (vs ++ ws).toArray } })
 (hsz:vs.length + ws.length≤sizeLine):wpAny (26:) A (binaryOp .Add (.ref t) (.ref b)) Q E s:=by
 obtain ⟨⟨cls,dd,data,sl⟩,ho,hc,n,hd⟩:=id ht
 obtain ⟨⟨cls2,dd2,data2,sl2⟩,ho2,hc2,n2,hd2⟩:=id hb
 simp only at hc hd hc2 hd2
 subst hc hd hc2 hd2
 have e:vs.toArray ++ ws.toArray=(vs ++ ws).toArray:=by simp
 by_cases hw:ws=[]
 ·exact concat_meets ⟨_,ho,rfl⟩ ⟨_,ho2,rfl⟩ noFill_tuple_add seq_tuple_add PySem.F.slot_tuple_add PySem.F.entry_tuple_add (PySem.F.args_tuple_add_2 _ _)
   (tuple_addW1 t b vs.toArray ws.toArray n n2 dd dd2 sl sl2 (by simpa using hv) (by simp [hw])) ⟨ho,ho2,h1 hw⟩
 ·refine concat_meets ⟨_,ho,rfl⟩ ⟨_,ho2,rfl⟩ noFill_tuple_add seq_tuple_add PySem.F.slot_tuple_add PySem.F.entry_tuple_add (PySem.F.args_tuple_add_2 _ _)
   (tuple_addW2 t b vs.toArray ws.toArray n n2 dd dd2 sl sl2 (by simpa using hv) (by simpa using hw) (by rw [List.size_toArray,List.size_toArray];exact hsz)) ⟨ho,ho2,?_⟩
  rw [e]
  exact h2 hw
def sIx (n d:Nat):Option Int→Nat
 | none=>d
 | some v=>if v < 0 then (v + (n:Int)).toNat else min v.toNat n
theorem sIx_none (n d:Nat):sIx n d none=d:=rfl
theorem sIx_nat (n d k:Nat):sIx n d (some (k:Int))=min k n:=by
 show (if (k:Int) < 0 then ((k:Int)+(n:Int)).toNat else min (k:Int).toNat n)=min k n
 rw [if_neg (11:),Int.toNat_natCast]
theorem NK (n d:Nat) (hd:d≤n) (o:Option Int):sIx n d o≤n:=by
 cases o with
 | none=>exact hd
 | some v =>
  show (if v < 0 then (v + (n:Int)).toNat else min v.toNat n)≤n
  by_cases hv:v < 0
  ·rw [if_pos hv];lia
  ·rw [if_neg hv];exact Nat.min_le_right _ _
theorem WY (v:Int) (n d:Nat):(if v < 0 then max (v + (n:Int)) 0 else min v (n:Int))=((sIx n d (some v):Nat):Int):=by
 show (if v < 0 then max (v + (n:Int)) 0 else min v (n:Int))=(((if v < 0 then (v + (n:Int)).toNat else min v.toNat n):Nat):Int)
 by_cases hv:v < 0
 ·simp only [if_pos hv];lia
 ·simp only [if_neg hv];lia
theorem WQ (lo hi:Option Int) (n:Nat):Builtin.Slice.sliceAdjust lo hi 1 (n:Int)=(((sIx n 0 lo:Nat):Int),((sIx n n hi:Nat):Int)):=by
 have h1:¬ ((1:Int) < 0):=by lia
 unfold Builtin.Slice.sliceAdjust
 simp only [h1,if_false]
 refine Prod.ext ?_ ?_
 ·cases lo with
  | none=>rfl
  | some v=>exact WY v n 0
 ·cases hi with
  | none=>rfl
  | some v=>exact WY v n n
theorem WL (i j:Nat):Builtin.Slice.slicePlaces (i:Int) (j:Int) 1=j - i:=by
 unfold Builtin.Slice.slicePlaces
 have h1:(1:Int) > 0:=by lia
 simp only [h1,if_true,Int.ediv_one]
 split <;> lia
theorem U8 {v:Value} {o:Option Int} {Q:Option Int→Shared→Prop} (p:IsPart v o) (h:Q o s):wpAny (26:) A (Builtin.Slice.slicePartIndex v) Q E s:=by
 cases p with
 | none=>exact slicePart_none h
 | int i t=>exact slicePart_int h
theorem YR {sl:Addr} {vl vu:Value} {lo hi:Option Int} {n:Nat} {Q:Int × Int × Nat→Shared→Prop} (hs:s.heap.IsSliceOf sl vl vu .none) (pl:IsPart vl lo) (pu:IsPart vu hi)
 (h:Q (((sIx n 0 lo:Nat):Int),1,sIx n n hi - sIx n 0 lo) s):wpAny (26:) A (Builtin.Slice.sliceApplied (.ref sl) (pure (n:Int))) Q E s:=by
 obtain ⟨os,hos,hcs,hds⟩:=id hs
 unfold Builtin.Slice.sliceApplied Builtin.Slice.sliceFields
 refine wpAny_bind (wpAny_bind (wpAny_field hos hds (x:=vl) rfl (wpAny_bind (wpAny_field hos hds (x:=vu) rfl (wpAny_bind (wpAny_field hos hds (x:=.none) rfl (wpAny_pure ?_)))))))
 refine wpAny_bind (slicePart_none ?_)
 show wpAny _ _ (if ((1:Int) == 0)=true then _ else _) _ _ s
 rw [if_neg (18:)]
 refine wpAny_bind (U8 pl (wpAny_bind (U8 pu (wpAny_bind (wpAny_pure ?_)))))
 show wpAny _ _ (match Builtin.Slice.sliceAdjust lo hi 1 (n:Int) with | (lo,hi)=>pure (lo,(1:Int),Builtin.Slice.slicePlaces lo hi 1)) _ _ s
 rw [WQ lo hi n]
 show wpAny _ _ (pure (((sIx n 0 lo:Nat):Int),(1:Int),Builtin.Slice.slicePlaces ((sIx n 0 lo:Nat):Int) ((sIx n n hi:Nat):Int) 1)) _ _ s
 rw [WL]
 exact wpAny_pure h
theorem V5 (xs:Array Value) (i k:Nat):((List.range k).filterMap fun (m:Nat)=>xs[((i:Int)+(m:Int) * 1).toNat]?).toArray=((xs.toList.drop i).take k).toArray:=by
 have e:(fun (m:Nat)=>xs[((i:Int)+(m:Int) * 1).toNat]?)=fun m=>xs[i + m]?:=by
  funext m
  have:((i:Int)+(m:Int) * 1).toNat=i + m:=by lia
  rw [this]
 rw [e]
 have:=pick_run xs i k
 rw [List.filterMap_map] at this
 have e2:((fun x=>xs[x]?) ∘ fun x=>i + x)=fun m=>xs[i + m]?:=rfl
 rw [e2] at this
 rw [this]
theorem getItem_tuple_cut {t sl:Addr} {items:Array Value} {vl vu:Value} {lo hi:Option Int} {Q:Value→Shared→Prop} (ht:IsTup s.heap t items) (hs:s.heap.IsSliceOf sl vl vu .none) (pl:IsPart vl lo) (pu:IsPart vu hi)
 (hw:¬ (sIx items.size 0 lo=0∧sIx items.size items.size hi=items.size))
 (h:Q (.ref s.heap.objs.size) { s with heap:=s.heap.push { cls:=.type "tuple", data:=.seq (56:).toArray } })
 (hsz:items.size≤sizeLine):wpAny (26:) A (getItem (.ref t) (.ref sl)) Q E s:=by
 have htake:sizeOk (.seq (56:).toArray):=by
  show (56:).toArray.size≤sizeLine
  rw [List.size_toArray,List.length_take,List.length_drop,Array.length_toList]
  lia
 have hj:sIx items.size items.size hi≤items.size:=NK _ _ (9:) hi
 obtain ⟨os,hos,hcs,hds⟩:=id hs
 have hTs:s.TypeIs (.ref sl) "slice" := ⟨os,hos,hcs⟩
 unfold getItem
 try with_reducible refine wpAny_holding ?_
 first | refine wpAny_bind (wpAny_pure ?_) | skip
 refine wpAny_bind (wpAny_sequenceKey ht.typeIs (18:) ?_)
 refine wpAny_bind (wpAny_callSpecial?_slot (name:=Str.ofString "__getitem__") ht.typeIs PyProof.Rows.slot_tuple_getitem
  (wpAny_call_entry PyProof.Rows.slot_tuple_getitem ht.typeIs entry_tuple_getitem ?_ (args_tuple_getitem _ _)))
 show wpAny _ _ (Builtin.Tuple.tupleItemsOf (.ref t) >>= _) _ _ s
 refine wpAny_bind (tupleItemsOf_ ht ?_)
 refine wpAny_bind (wpAny_typeOf hTs ?_)
 rw [if_pos (18:)]
 refine wpAny_bind (YR hs pl pu ?_)
 have hno:¬ ((((sIx items.size 0 lo:Nat):Int) == 0 && (1:Int) == 1 && (sIx items.size items.size hi - sIx items.size 0 lo) == items.size)=true):=by
  intro q
  rw [Bool.and_eq_true,Bool.and_eq_true] at q
  have q1:((sIx items.size 0 lo:Nat):Int)=0:=eq_of_beq q.1.1
  have q2:sIx items.size items.size hi - sIx items.size 0 lo=items.size:=eq_of_beq q.2
  exact hw ⟨by lia,by lia⟩
 show wpAny _ _ (if (((sIx items.size 0 lo:Nat):Int) == 0 && (1:Int) == 1 && (sIx items.size items.size hi - sIx items.size 0 lo) == items.size)=true then _ else _) _ _ s
 rw [if_neg hno,V5]
 first
  | exact wpAny_bind (m:=Builtin.Tuple.tupleExact _) (wpAny_newObj_type (wpAny_pure ⟨_,rfl,wpAny_pure h⟩) htake)
  | exact wpAny_bind (m:=Builtin.Tuple.tupleExact _) (wpAny_newObj_type (wpAny_bind (wpAny_pure (wpAny_pure ⟨_,rfl,wpAny_pure h⟩))) htake)
  | exact wpAny_bind (wpAny_bind (m:=Builtin.Tuple.tupleExact _) (wpAny_newObj_type (wpAny_pure (wpAny_pure ⟨_,rfl,wpAny_pure h⟩)) htake))
  | exact wpAny_bind (wpAny_bind (m:=Builtin.Tuple.tupleExact _) (wpAny_newObj_type (wpAny_pure ⟨_,rfl,wpAny_pure h⟩) htake))
end
end HT
namespace L2
open PySem PySem.Spec PyProof.Rows
abbrev TO:=St→Hp→(Option Int→Hp→Prop)→Prop
def PO (X:Cx) (e:Option Expr) (t:TO):Prop :=
 ∀ (pins:List (10:)) (s:Shared) (σ:St) (H:Hp) (Q:Option Int→Hp→Prop),Inv X pins σ H s→t σ H Q →
  wpAny (6:) X.A (evalPart e X.env) (fun u s'=>∃ o H',Inv X pins σ H' s'∧IsPart u o∧Q o H') X.xe s
def LO:TO:=fun _ H Q=>Q none H
def Oi (t:TE):TO:=fun σ H Q=>t σ H fun x H1=>∃ i,x=.int i∧Q (some i) H1
section
variable {X:Cx} {e:Expr} {te:TE} {lo hi:Option Expr} {tl th:TO} {pos p2:Pos}
theorem ZT:PO X none LO:=by
 intro pins s σ H Q I h
 rw [evalPart_none]
 exact wpAny_pure ⟨none,H,I,.none,h⟩
theorem ZZ (h:PE X e te):PO X (some e) (Oi te):=by
 intro pins s σ H Q I hw
 rw [evalPart_some]
 refine thn (h pins s σ H _ I hw) fun u s1 ⟨x,H1,I1,r1,q1⟩=>?_
 obtain ⟨i,rfl,q⟩:=q1
 obtain ⟨t,rfl⟩:=r1
 exact ⟨some i,H1,I1,.int i t,q⟩
def SlR (X:Cx) (r:V→Option Int→Option Int→Hp→VK→Prop):Prop :=
 ∀ (pins:List (10:)) (s:Shared) (σ:St) (H:Hp) (x:V) (v vl vu:Value) (lo hi:Option Int) (sl:Addr) (Q:VK),Inv X pins σ H s→RelV x v→s.heap.IsSliceOf sl vl vu .none→IsPart vl lo→IsPart vu hi→r x lo hi H Q →
  ∃ T id,typeLookup (.type T) "__getitem__" = pure (some (.builtin id))∧s.TypeIs v T∧wpAny (6:) X.A (getItem v (.ref sl)) (EP X pins σ Q) X.xe s
def tSl (r:V→Option Int→Option Int→Hp→VK→Prop) (te:TE) (tl th:TO):TE:=fun σ H Q=>te σ H fun x H1=>tl σ H1 fun l H2=>th σ H2 fun u H3=>r x l u H3 Q
theorem Zp {r:V→Option Int→Option Int→Hp→VK→Prop} (hr:SlR X r) (he:PE X e te) (hl:PO X lo tl) (hu:PO X hi th):PE X (.Subscript e (.Slice lo hi none p2) pos) (tSl r te tl th):=by
 intro pins s σ H Q I h
 refine Subscript_ (thn (he pins s σ H _ I h) fun v s1 ⟨x,H1,I1,r1,q1⟩=>?_)
 refine wpAny_Slice (thn (hl pins s1 σ H1 _ I1 q1) fun vl s2 ⟨l,H2,I2,pl,q2⟩=>thn (hu pins s2 σ H2 _ I2 q2) fun vu s3 ⟨u,H3,I3,pu,q3⟩=>?_)
 rw [evalPart_none]
 refine wpAny_pure ?_
 have I4:Inv X pins σ H3 { s3 with heap:=s3.heap.push { cls:=.type "slice", data:=.fields #[vl,vu,.none] } }:=I3.kept (t':=s3.toks) fun b ob q=>Heap.get?_push_of_some _ q
 obtain ⟨T,id,hT,ht,hg⟩:=hr pins { s3 with heap:=s3.heap.push { cls:=.type "slice", data:=.fields #[vl,vu,.none] } } σ H3 x v vl vu l u s3.heap.objs.size Q I4 r1 (Heap.IsSliceOf.new ..) pl pu q3
 show wpAny (6:) X.A (subscriptTail e (.Slice lo hi none p2) v (.ref s3.heap.objs.size)) (EP X pins σ Q) X.xe { s3 with heap:=s3.heap.push { cls:=.type "slice", data:=.fields #[vl,vu,.none] } }
 exact tail_any (ops:=[.ref s3.heap.objs.size,v]) ht hT hg (by with_unfolding_all rfl)
def cutV (xs:List V) (lo hi:Option Int):List V:=(xs.drop (HT.sIx xs.length 0 lo)).take (HT.sIx xs.length xs.length hi - HT.sIx xs.length 0 lo)
theorem Ud (xs:List V) (lo hi:Option Int):(cutV xs lo hi).length≤xs.length:=by
 unfold cutV
 rw [List.length_take,List.length_drop]
 lia
def N2 (K:PySem.W.Frag):V→Option Int→Option Int→Hp→VK→Prop:=fun x lo hi H Q=>∃ a xs,x=.ref a∧SqT K H a xs ∧
 ¬ (HT.sIx xs.length 0 lo=0∧HT.sIx xs.length xs.length hi=xs.length)∧∀ p,H p=none→Q (.ref p) (upd H p (.tup (cutV xs lo hi)))
theorem JI:SlR X (N2 X.K):=by
 intro pins s σ H x v vl vu lo hi sl Q I rx hs pl pu h
 obtain ⟨a,xs,rfl,hx,hw,q⟩:=h
 cases rx
 obtain ⟨its,r,ht,hz⟩:=I.tuple hx
 have hlen:its.toArray.size=xs.length:=by rw [List.size_toArray];exact r.length.symm
 refine ⟨"tuple", _,PyProof.Rows.slot_tuple_getitem.lookup,ht.typeIs,?_⟩
 refine HT.getItem_tuple_cut ht hs pl pu (by rw [hlen];exact hw) ?_ (by rw [hlen];exact hz)
 rw [hlen]
 refine ⟨.ref s.heap.objs.size,_,I.laid (t':=s.toks) (o:=.tup (cutV xs lo hi)) (fun b ob q=>Heap.get?_push_of_some _ q) (9:) ?_,rfl,q _ (I.hok.fresh (9:))⟩
 exact ⟨Nat.le_trans (Ud xs lo hi) hz,_,(r.drop (HT.sIx xs.length 0 lo)).take (HT.sIx xs.length xs.length hi - HT.sIx xs.length 0 lo),IsTup.new _ _⟩
def OT (K:PySem.W.Frag):R2:=fun x y H Q=>∃ a b xs ys,x=.ref a∧y=.ref b∧SqT K H a xs∧SqT K H b ys∧xs≠[]∧xs.length + ys.length≤sizeLine ∧
 (ys=[]→Q (.ref a) H)∧(ys≠[]→∀ p,H p=none→Q (.ref p) (upd H p (.tup (xs ++ ys))))
theorem Vals.nil_iff {xs:List V} {us:List Value} (r:Vals xs us):us=[] ↔ xs=[]:=by
 cases r with
 | nil=>simp
 | cons _ _=>simp
theorem LR:OpR X (binaryOp .Add) (OT X.K):=by
 intro pins s σ H x y v u Q I rx ry h
 obtain ⟨a,b,xs,ys,rfl,rfl,ha,hb,hx,hz,q1,q2⟩:=h
 cases rx
 cases ry
 obtain ⟨its,r1,p1,_⟩:=I.tuple ha
 obtain ⟨its2,r2,p2,_⟩:=I.tuple hb
 refine HT.cat_tup p1 p2 (fun z=>hx (r1.nil_iff.mp z)) (fun z=>⟨.ref a,H,I,rfl,q1 (r2.nil_iff.mp z)⟩) (fun z=>?_) (by rw [← r1.length,← r2.length];exact hz)
 refine ⟨.ref s.heap.objs.size,_,I.laid (t':=s.toks) (o:=.tup (xs ++ ys)) (fun b ob q=>Heap.get?_push_of_some _ q) (9:) ?_,rfl,q2 (fun w=>z (r2.nil_iff.mpr w)) _ (I.hok.fresh (9:))⟩
 exact ⟨by rw [List.length_append];exact hz,_,r1.append r2,IsTup.new _ _⟩
end
end L2
namespace L2
open PySem PySem.Spec PyProof.Rows
def ixN (n:Nat) (i:Int):Option Nat:=if 0≤i then (if i < n then some i.toNat else none) else if -(n:Int)≤i then some (i + n).toNat else none
def atI {α:Type} (xs:List α) (i:Int):Option α:=(ixN xs.length i).bind fun j=>xs[j]?
theorem W5 {n:Nat} {i:Int} {j:Nat} (h:ixN n i=some j):seqIndex? i n=some j∧j < n∧-(n:Int)≤i∧i < n:=by
 unfold ixN at h
 by_cases h0:0≤i
 ·rw [if_pos h0] at h
  by_cases h1:i < n
  ·rw [if_pos h1] at h
   have e:i.toNat=j:=Option.some.inj h
   exact ⟨by rw [seqIndex_of h0 h1,e],by lia,by lia,h1⟩
  ·rw [if_neg h1] at h;cases h
 ·rw [if_neg h0] at h
  by_cases h1:-(n:Int)≤i
  ·rw [if_pos h1] at h
   have e:(i + n).toNat=j:=Option.some.inj h
   exact ⟨by rw [seqIndex_neg (11:) h1,e],by lia,h1,by lia⟩
  ·rw [if_neg h1] at h;cases h
theorem Xd {α:Type} {xs:List α} {i:Int} {v:α} (h:atI xs i=some v):∃ j,seqIndex? i xs.length=some j∧xs[j]?=some v∧j < xs.length∧-(xs.length:Int)≤i∧i < xs.length:=by
 unfold atI at h
 cases e:ixN xs.length i with
 | none=>rw [e] at h;cases h
 | some j =>
  rw [e] at h
  obtain ⟨h1,h2,h3,h4⟩:=W5 e
  exact ⟨j,h1,h,h2,h3,h4⟩
theorem Qy {α:Type} {xs:List α} {j:Nat} {v:α} (h:xs[j]?=some v):atI xs (j:Int)=some v:=by
 have hj:j < xs.length:=(List.getElem?_eq_some_iff.mp h).1
 have e:ixN xs.length (j:Int)=some j:=by
  unfold ixN
  rw [if_pos (11:),if_pos (11:)];simp
 unfold atI;rw [e];exact h
def LI (b:Expr):Prop:=∀ o i,subscripted b false o i=operate [o,i] (getItem o i)
def IxR (X:Cx) (r:R2):Prop :=
 ∀ (value slice:Expr) (pins:List (10:)) (s:Shared) (σ:St) (H:Hp) (x y:V) (v u:Value) (Q:VK),Inv X pins σ H s→RelV x v→RelV y u→r x y H Q →
  subscripted slice false v u=operate [v,u] (getItem v u)→wpAny (6:) X.A (subscriptTail value slice v u) (EP X pins σ Q) X.xe s
def MtR (X:Cx) (id:String) (r:V→List V→Hp→VK→Prop):Prop :=
 ∀ (pins:List (10:)) (s:Shared) (σ:St) (H:Hp) (x:V) (xs:List V) (v:Value) (us:List Value) (Q:VK),Inv X pins σ H s→RelV x v→Vals xs us→r x xs H Q →
  wpAny (6:) X.A (call (.builtin id) (v :: us)) (EP X pins σ Q) X.xe s
section
variable {X:Cx} {a b:Expr} {ta tb:TE} {pos:Pos}
theorem Qi {r:R2} (hr:IxR X r) (ha:PE X a ta) (hb:PE X b tb) (hs:LI b):PE X (.Subscript a b pos) (tOp r ta tb):=by
 intro pins s σ H Q I h
 exact Subscript_ (Np ha hb I h fun v u s2 x y H2 I2 rx ry q=>hr a b pins s2 σ H2 x y v u Q I2 rx ry q (hs _ _))
def N6 (K:PySem.W.Frag):R2:=fun x y H Q=>∃ p xs i v,x=.ref p∧y=.int i∧SqL K H p xs∧atI xs i=some v∧Q v H
def Mj (K:PySem.W.Frag):R2:=fun x y H Q=>∃ p xs i v,x=.ref p∧y=.int i∧SqT K H p xs∧atI xs i=some v∧Q v H
def Ob:R2:=fun x y H Q=>∃ z i c,x=.str z∧y=.int i∧z.length≤sizeLine∧atI z.cps.toList i=some c∧Q (.str ⟨#[c]⟩) H
theorem Qx:IxR X (N6 X.K):=by
 intro value slice pins s σ H x y v u Q I rx ry h hs
 obtain ⟨p,xs,i,z,rfl,rfl,hq,he,q⟩:=h
 cases rx
 obtain ⟨t,rfl⟩:=ry
 obtain ⟨its,r,pl,hz⟩:=I.list hq
 obtain ⟨j,h1,h2,h3,h4,h5⟩:=Xd he
 obtain ⟨w,ew,rw'⟩:=r.get h2
 have hl:=r.length
 have hn:=UP
 have fin:EP X pins σ Q w s:=⟨z,H,I,rw',q⟩
 by_cases h0:0≤i
 ·have hj:i.toNat=j:=by
   rw [seqIndex_of h0 h5] at h1
   exact Option.some.inj h1
  exact item_listR pl.isList h0 (11:) (by rw [hj];simpa using ew) fin hs
 ·have hj:(i + (its.toArray.size:Int)).toNat=j:=by
   rw [seqIndex_neg (11:) h4] at h1
   rw [List.size_toArray,← hl]
   exact Option.some.inj h1
  exact subscriptTail_builtinR (x:=w) pl.isList.typeIs slot_list_getitem.lookup
   (wpAny_getItem_list_neg (Q:=fun r s'=>r=w∧EP X pins σ Q r s') pl.isList (11:) (by rw [List.size_toArray] <;> lia) (11:) (by rw [hj];simpa using ew) ⟨rfl,fin⟩) hs
theorem Qg:IxR X (Mj X.K):=by
 intro value slice pins s σ H x y v u Q I rx ry h hs
 obtain ⟨p,xs,i,z,rfl,rfl,hq,he,q⟩:=h
 cases rx
 obtain ⟨t,rfl⟩:=ry
 obtain ⟨its,r,pl,hz⟩:=I.tuple hq
 obtain ⟨j,h1,h2,h3,h4,h5⟩:=Xd he
 obtain ⟨w,ew,rw'⟩:=r.get h2
 have hl:=r.length
 have hn:=UP
 have fin:EP X pins σ Q w s:=⟨z,H,I,rw',q⟩
 exact subscriptTail_builtinR (x:=w) pl.typeIs slot_tuple_getitem.lookup
  (getItem_tuple (j:=j) (Q:=fun r s'=>r=w∧EP X pins σ Q r s') pl (11:) (11:) (by rw [List.size_toArray,← hl];exact h1) (by simpa using ew) ⟨rfl,fin⟩) hs
theorem V6:IxR X Ob:=by
 intro value slice pins s σ H x y v u Q I rx ry h hs
 obtain ⟨z,i,c,rfl,rfl,hz,he,q⟩:=h
 obtain ⟨t,rfl⟩:=rx
 obtain ⟨t',rfl⟩:=ry
 obtain ⟨j,h1,h2,h3,h4,h5⟩:=Xd he
 have hl:z.cps.toList.length=z.length:=by simp [Str.length]
 rw [hl] at h1 h4 h5
 have hn:=UP
 exact tail_any (typeIs_str s z t) slot_str_getitem.lookup (getItem_str (c:=c) (by
  have e1:decide (i < -(2 ^ 63:Int))=false:=decide_eq_false (11:)
  have e2:decide (i ≥ 2 ^ 63)=false:=decide_eq_false (11:)
  rw [e1,e2,Bool.or_false]) (by rw [h1];simpa using h2) ⟨.str ⟨#[c]⟩,H,I.tok _,⟨_,rfl⟩,q⟩) hs
theorem Wj (its:List Value) (n j:Nat) (u:Value):Obj.mapSeq (·.setIfInBounds j u) { cls:=.type "list", data:=.seq its.toArray n }={ cls:=.type "list", data:=.seq (its.set j u).toArray n }:=by
 simp [Obj.mapSeq]
theorem Inv.lst {pins:List (10:)} {σ:St} {H:Hp} {s:Shared} {p:Addr} {xs:List V} (I:Inv X pins σ H s) (h:H p=some (.lst xs)) :
 ∃ (its:List Value) (n:Nat),Vals xs its∧s.heap.get? p=some { cls:=.type "list", data:=.seq its.toArray n }∧xs.length≤sizeLine:=by
 obtain ⟨z,its,n,r,e⟩:=I.hok p _ h
 exact ⟨its,n,r,e,z⟩
theorem Inv.lstUpd {pins:List (10:)} {σ:St} {H:Hp} {s:Shared} {p:Addr} {xs ys:List V} {its its':List Value} {n n':Nat} {f:Obj→Obj} (I:Inv X pins σ H s) (h:H p=some (.lst xs))
 (ho:s.heap.get? p=some { cls:=.type "list", data:=.seq its.toArray n }) (hf:f { cls:=.type "list", data:=.seq its.toArray n }={ cls:=.type "list", data:=.seq its'.toArray n' }) (r:Vals ys its') (hz:ys.length≤sizeLine) (t:Nat) :
 Inv X pins σ (upd H p (.lst ys)) { s with heap:=s.heap.update p f,toks:=t }:=by
 have e:(s.heap.update p f).get? p=some { cls:=.type "list", data:=.seq its'.toArray n' }:=by
  rw [Heap.get?_update_self f ho (by rw [hf] <;> rfl),hf]
 refine I.write (x:=p) (e:=p) (by rw [h];trivial) (.inl rfl) (fun b u hb q=>(Heap.get?_update_other _ _ (Ne.symm hb)).trans q) ⟨_,e⟩ ?_
 exact ⟨hz,its',n',r,e⟩
def OW:V→V→V→Hp→(Hp→Prop)→Prop:=fun o i v H Q=>∃ p xs k j,o=.ref p∧i=.int k∧H p=some (.lst xs)∧ixN xs.length k=some j∧Q (upd H p (.lst (xs.set j v)))
theorem VZ:N9 X OW:=by
 intro pins s σ H o i v ov iv u Q I ro ri rv h
 obtain ⟨p,xs,k,j,rfl,rfl,hp,hj,q⟩:=h
 cases ro
 obtain ⟨t,rfl⟩:=ri
 obtain ⟨its,n,r,ho,hz⟩:=I.lst hp
 obtain ⟨h1,h2,h3,h4⟩:=W5 hj
 have hl:=r.length
 have hn:=UP
 have I':Inv X pins σ (upd H p (.lst (xs.set j v))) { s with heap:=s.heap.update p (Obj.mapSeq (·.setIfInBounds j u)) } :=
  I.lstUpd hp ho (Wj its n j u) (r.set rv j) (by rw [List.length_set];exact hz) s.toks
 by_cases h0:0≤k
 ·have hk:k.toNat=j:=by
   rw [seqIndex_of h0 h4] at h1
   exact Option.some.inj h1
  exact PySem.W.ki_setAt ho h0 (11:) (by rw [List.size_toArray,← hl];exact h4) (by rw [hk];exact ⟨_,I',q⟩)
 ·have hk:(k + (its.toArray.size:Int)).toNat=j:=by
   rw [seqIndex_neg (11:) h3] at h1
   rw [List.size_toArray,← hl]
   exact Option.some.inj h1
  exact PySem.W.ki_setBack ho (11:) (by rw [List.size_toArray,← hl];exact h3) (11:) (by rw [hk];exact ⟨_,I',q⟩)
theorem J8 (lo hi:Option Int) (n:Nat):(sliceBounds lo hi none n).1=((HT.sIx n 0 lo:Nat):Int)∧(sliceBounds lo hi none n).2.1=((HT.sIx n n hi:Nat):Int)∧(sliceBounds lo hi none n).2.2=1:=by
 refine ⟨?_,?_,rfl⟩
 ·cases lo with
  | none=>simp [sliceBounds,HT.sIx]
  | some i =>
   simp only [sliceBounds,HT.sIx,Option.getD_none,show (1:Int) > 0 by decide,if_true]
   by_cases h:i < 0
   ·simp only [h,if_true] <;> lia
   ·simp only [h,if_false] <;> lia
 ·cases hi with
  | none=>simp [sliceBounds,HT.sIx]
  | some i =>
   simp only [sliceBounds,HT.sIx,Option.getD_none,show (1:Int) > 0 by decide,if_true]
   by_cases h:i < 0
   ·simp only [h,if_true] <;> lia
   ·simp only [h,if_false] <;> lia
theorem Ja (its:List Value) (lo hi:Option Int):slicePick its.toArray lo hi none=((its.drop (HT.sIx its.length 0 lo)).take (HT.sIx its.length its.length hi - HT.sIx its.length 0 lo)).toArray:=by
 obtain ⟨h1,h2,h3⟩:=J8 lo hi its.toArray.size
 unfold slicePick
 rw [h1,h2,h3]
 simp only [sliceRange_one,pick_run,List.size_toArray] <;> rfl
def OC (K:PySem.W.Frag):V→Option Int→Option Int→Hp→VK→Prop:=fun x lo hi H Q=>∃ a xs,x=.ref a∧SqL K H a xs∧∀ p,H p=none→Q (.ref p) (upd H p (.lst (cutV xs lo hi)))
theorem JX:SlR X (OC X.K):=by
 intro pins s σ H x v vl vu lo hi sl Q I rx hs pl pu h
 obtain ⟨a,xs,rfl,hx,q⟩:=h
 cases rx
 obtain ⟨its,r,ht,hz⟩:=I.list hx
 have hlen:=r.length
 refine ⟨"list", _,slot_list_getitem.lookup,ht.isList.typeIs,?_⟩
 refine wpAny_getItem_list_slice ht.isList hs pl pu .none (27:) ?_ (by rw [List.size_toArray] <;> lia)
 rw [Ja,← hlen]
 refine ⟨.ref s.heap.objs.size,_,I.laid (t':=s.toks) (o:=.lst (cutV xs lo hi)) (fun b ob q=>Heap.get?_push_of_some _ q) (9:) ?_,rfl,q _ (I.hok.fresh (9:))⟩
 exact ⟨Nat.le_trans (Ud xs lo hi) hz,_,0,(r.drop (HT.sIx xs.length 0 lo)).take (HT.sIx xs.length xs.length hi - HT.sIx xs.length 0 lo),Heap.get?_push_size _ rfl⟩
theorem Qn:Ym X (.builtin "len") (fun xs H Q=>∃ p ys,xs=[.ref p]∧(SqL X.K H p ys∨SqT X.K H p ys)∧Q (.int ys.length) H):=by
 intro pins s σ H xs us Q I r h
 obtain ⟨p,ys,rfl,hq,q⟩:=h
 obtain ⟨u,rfl,rx⟩:=XW r
 cases rx
 have hn:=UP
 rcases hq with hq | hq
 ·obtain ⟨its,r',pl,hz⟩:=I.list hq
  have hlen:=r'.length
  exact Calls.call_len_list pl.isList (by simp only [List.size_toArray] <;> lia) ⟨.int ys.length,H,I.tok _,⟨s.toks + 1,by rw [List.size_toArray,hlen]⟩,q⟩
 ·obtain ⟨its,r',pl,hz⟩:=I.tuple hq
  have hlen:=r'.length
  exact len_tuple pl (by simp only [List.size_toArray] <;> lia) ⟨.int ys.length,H,I.tok _,⟨s.toks + 1,by rw [List.size_toArray,hlen]⟩,q⟩
theorem ZW:Ym X (.type "list") (fun xs H Q=>∃ p ys,xs=[.ref p]∧(SqL X.K H p ys∨SqT X.K H p ys)∧∀ l,H l=none→Q (.ref l) (upd H l (.lst ys))):=by
 intro pins s σ H xs us Q I r h
 obtain ⟨p,ys,rfl,hq,q⟩:=h
 obtain ⟨u,rfl,rx⟩:=XW r
 cases rx
 have fin:∀ (its:List Value),Vals ys its→ys.length≤sizeLine→∀ (h':Heap) (c':Nat),(∀ b o',s.heap.get? b=some o'→h'.get? b=some o') →
  h'.get? s.heap.objs.size=some { cls:=.type "list", dict:=none,data:=.seq its.toArray c',slots:=#[] }→EP X pins σ Q (.ref s.heap.objs.size) { s with heap:=h' }:=fun its r' hz h' c' kp e =>
  ⟨.ref s.heap.objs.size,_,I.laid (t':=s.toks) kp (9:) (show ObjOk X.prog X.w _ h' _ (.lst ys) from ⟨hz,its,c',r',e⟩),rfl,q _ (I.hok.fresh (9:))⟩
 rcases hq with hq | hq
 ·obtain ⟨its,r',pl,hz⟩:=I.list hq
  have hlen:=r'.length
  obtain ⟨o,ho,hc,n,hd⟩:=pl.isList
  exact call_list_seq p (.inl rfl) ho hc hd (fun h' c' kp e=>fin its r' hz h' c' kp e) (by simp only [List.size_toArray] <;> lia)
 ·obtain ⟨its,r',pl,hz⟩:=I.tuple hq
  have hlen:=r'.length
  obtain ⟨o,ho,hc,n,hd⟩:=pl
  exact call_list_seq p (.inr rfl) ho hc hd (fun h' c' kp e=>fin its r' hz h' c' kp e) (by simp only [List.size_toArray] <;> lia)
theorem Zz:Ym X (.type "tuple") (fun xs H Q=>∃ p ys,xs=[.ref p]∧((SqL X.K H p ys∧∀ l,H l=none→Q (.ref l) (upd H l (.tup ys)))∨(SqT X.K H p ys∧Q (.ref p) H))):=by
 intro pins s σ H xs us Q I r h
 obtain ⟨p,ys,rfl,h⟩:=h
 obtain ⟨u,rfl,rx⟩:=XW r
 cases rx
 rcases h with ⟨hq,q⟩ | ⟨hq,q⟩
 ·obtain ⟨its,r',pl,hz⟩:=I.list hq
  have hlen:=r'.length
  refine call_tuple_list pl.isList (fun h' kp=>?_) (by simp only [List.size_toArray] <;> lia)
  have I1:Inv X pins σ H { s with heap:=h' }:=I.kept (t':=s.toks) kp
  have I2:Inv X pins σ (upd H h'.objs.size (.tup ys)) { s with heap:=h'.push { cls:=.type "tuple", data:=.seq its.toArray } } :=
   I1.laid (t':=s.toks) (fun b o e=>Heap.get?_push_of_some _ e) (9:) (show ObjOk X.prog X.w _ _ _ (.tup ys) from ⟨hz,its,r',IsTup.new _ _⟩)
  exact ⟨.ref h'.objs.size,_,I2,rfl,q _ (I1.hok.fresh (9:))⟩
 ·obtain ⟨its,r',pl,hz⟩:=I.tuple hq
  exact call_tuple_same pl ⟨.ref p,H,I,rfl,q⟩
def tyV (K:PySem.W.Frag) (T:String) (x:V) (H:Hp):Prop:=match x with
 | .str _=>T = "str"
 | .int _=>T = "int"
 | .ref p=>(T = "list" ∧ ∃ xs,SqL K H p xs)∨(T = "tuple" ∧ ∃ o,K.lookup p=some o∧o.cls=.type "tuple" ∧ o.dict=none) ∨
  (T = "dict" ∧ ((∃ kvs,H p=some (.dK kvs))∨∃ kvs,H p=some (.dT kvs)))∨(T = "set" ∧ ∃ S n,H p=some (.set S n))
 | _=>False
theorem GE {pins:List (10:)} {σ:St} {H:Hp} {s:Shared} {T:String} {x:V} {v:Value} (I:Inv X pins σ H s) (r:RelV x v) (ty:tyV X.K T x H) :
 s.TypeIs v T∧∀ a,v=.ref a→∃ ob,s.heap.get? a=some ob∧ob.dict=none:=by
 cases x with
 | str z =>
  obtain ⟨t,rfl⟩:=r
  cases (show T = "str" from ty)
  exact ⟨typeIs_str s z t,fun _ e=>nomatch e⟩
 | int i =>
  obtain ⟨t,rfl⟩:=r
  cases (show T = "int" from ty)
  exact ⟨typeIs_int s i t,fun _ e=>nomatch e⟩
 | ref p =>
  cases r
  rcases ty with ⟨rfl,xs,hq⟩ | ⟨rfl,o,hk,hc,hd⟩ | ⟨rfl,hk⟩ | ⟨rfl,S,n,hk⟩
  ·obtain ⟨its,_,pl,_⟩:=I.list hq
   refine ⟨pl.isList.typeIs,fun a e=>?_⟩
   cases e
   obtain ⟨o,n,e,c,hd,_⟩:=pl
   exact ⟨o,e,hd⟩
  ·refine ⟨⟨o,I.kIn p o hk,hc⟩,fun a e=>?_⟩
   cases e
   exact ⟨o,I.kIn _ o hk,hd⟩
  ·have z:∃ o,s.heap.get? p=some o∧o.ExactDict:=by
    rcases hk with ⟨kvs,hk⟩ | ⟨kvs,hk⟩
    ·obtain ⟨_,_,_,_,o,_,_,e,ex,_⟩:=I.hok p _ hk
     exact ⟨o,e,ex⟩
    ·obtain ⟨_,_,_,_,o,_,_,e,ex,_⟩:=I.hok p _ hk
     exact ⟨o,e,ex⟩
   obtain ⟨o,e,ex⟩:=z
   refine ⟨⟨o,e,ex.1⟩,fun a e2=>?_⟩
   cases e2
   exact ⟨o,e,ex.2.1⟩
  ·obtain ⟨o,_,_,_,e,ex,_⟩:=I.hok p _ hk
   refine ⟨⟨o,e,ex.1⟩,fun a e2=>?_⟩
   cases e2
   exact ⟨o,e,ex.2.1⟩
 | _=>exact False.elim ty
def Pi (K:PySem.W.Frag) (T:String) (r:V→List V→Hp→VK→Prop) (to:TE):TE:=fun σ H Q=>to σ H fun x H1=>tyV K T x H1∧r x [] H1 Q
def tBM (K:PySem.W.Frag) (T:String) (r:V→List V→Hp→VK→Prop) (to:TE) (t:TA):TE:=fun σ H Q=>to σ H fun x H1=>tyV K T x H1∧t σ H1 fun xs H2=>r x xs H2 Q
variable {o e:Expr} {es:List Expr} {to:TE} {t:TA} {name:Str} {apos cpos:Pos} {T id:String} {r:V→List V→Hp→VK→Prop}
theorem NB (pa:PlainAttrs T) (slot:Slot T name id) (hty:typeOf (.builtin id)=pure (.type "method_descriptor")) (hm:MtR X id r) (ho:PE X o to)
 (hbase:attributeBase o name X.env (eval o X.env)=eval o X.env:=by rfl) (hline:(apos.endLine == cpos.line)=true:=by rfl):PE X (.Call (.Attribute o name apos) [] [] cpos) (Pi X.K T r to):=by
 intro pins s σ H Q I h
 refine wpAny_Call_method0_late hbase hline (thn (ho pins s σ H _ I h) fun v s1 ⟨x,H1,I1,r1,ty,q1⟩=>?_)
 obtain ⟨h1,h2⟩:=GE I1 r1 ty
 exact ⟨T,id,pa,slot,hty,h1,h2,Calls.callWith_builtin rfl (PySem.evalArgs_none (hm pins s1 σ H1 x [] v [] Q I1 r1 .nil q1))⟩
theorem Zo (pa:PlainAttrs T) (slot:Slot T name id) (hty:typeOf (.builtin id)=pure (.type "method_descriptor")) (hm:MtR X id r) (ho:PE X o to) (ha:PA X (e :: es) t)
 (hbase:attributeBase o name X.env (eval o X.env)=eval o X.env:=by rfl)
 (hfew:((backTo cpos (starEach (e :: es) X.env)).all (fun x=>!x.1) && (backToKw cpos (keywordEach [] X.env)).all (fun x=>x.1.isSome)
  && decide ((e :: es).length + ([]:List Keyword).length + (if ([]:List Keyword).isEmpty then 0 else 1) < 30))=true:=by rfl)
 (hline:(apos.endLine == cpos.line)=true:=by rfl) (hs:starEach (e :: es) X.env=(false,eval e X.env) :: starEach es X.env:=by rfl) (hplain:(backTo cpos (starEach es X.env)).any (·.1)=false:=by rfl) :
 PE X (.Call (.Attribute o name apos) (e :: es) [] cpos) (tBM X.K T r to t):=by
 intro pins s σ H Q I h
 refine wpAny_Call_method_late hbase hfew hline rfl (thn (ho pins s σ H _ I h) fun v s1 ⟨x,H1,I1,r1,ty,q1⟩=>?_)
 obtain ⟨h1,h2⟩:=GE I1 r1 ty
 refine ⟨T,id,pa,slot,hty,h1,h2,?_⟩
 have hA:=ha cpos pins s1 σ H1 _ I1 q1
 rw [hs] at hA ⊢
 refine Calls.callWith_builtin (by show (false || (backTo cpos (starEach es X.env)).any (·.1))=false;rw [hplain] <;> rfl) (Calls.evalArgs_plain ?_)
 exact thn hA fun us s2 ⟨vs,H2,I2,r2,q2⟩=>hm pins s2 σ H2 x vs v us Q I2 r1 r2 q2
/- xs.append(e),list.index on a module's tuple .. are MtR facts of 06m -/
end
end L2
namespace L2
open PySem PySem.Spec PyProof.Rows
def MtM (X:Cx) (id:String) (r:V→List V→Hp→VK→Prop):Prop :=
 ∀ (pins:List (10:)) (s:Shared) (σ:St) (H:Hp) (x:V) (xs:List V) (v:Value) (us:List Value) (Q:VK),Inv X pins σ H s→RelV x v→Vals xs us→r x xs H Q →
  wpAny (6:) X.A (call (.builtin id) (v :: us)) (EP X pins σ Q) X.xe s
theorem Vals.one:∀ {x:V} {us:List Value},Vals [x] us→∃ u,us=[u]∧RelV x u
 | _,_,.cons r .nil=>⟨_,rfl,r⟩
theorem Vals.two:∀ {x y:V} {us:List Value},Vals [x,y] us→∃ u v,us=[u,v]∧RelV x u∧RelV y v
 | _,_,_,.cons r (.cons q .nil)=>⟨_,_,rfl,r,q⟩
theorem Vals.zero:∀ {us:List Value},Vals [] us→us=[]
 | _,.nil=>rfl
theorem Vals.dropLast {xs:List V} {us:List Value} (h:Vals xs us):Vals xs.dropLast us.dropLast:=by
 induction h with
 | nil=>exact .nil
 | cons r t ih =>
  cases t with
  | nil=>exact .nil
  | cons q t'=>exact .cons r ih
theorem Vals.rep {xs:List V} {us:List Value} (h:Vals xs us):∀ k:Nat,Vals (List.replicate k xs).flatten (List.replicate k us).flatten
 | 0=>.nil
 | k + 1=>by
  rw [List.replicate_succ,List.replicate_succ,List.flatten_cons,List.flatten_cons]
  exact Vals.append h (Vals.rep h k)
theorem Wv {α:Type} (l:List α):l.eraseIdx (l.length - 1)=l.dropLast:=by
 induction l with
 | nil=>rfl
 | cons a r ih =>
  cases r with
  | nil=>rfl
  | cons b r =>
   have e:(a :: b :: r).length - 1=((b :: r).length - 1)+1:=by
    have h1:(a :: b :: r).length=r.length + 2:=rfl
    have h2:(b :: r).length=r.length + 1:=rfl
    lia
   rw [e,List.eraseIdx_cons_succ,ih]
   all_goals rfl
theorem JB (its:List Value):∀ (k:Nat) (acc:List Value),
 List.foldl (fun x1 x2=>x1 ++ x2) acc.toArray (List.replicate k its.toArray)=(acc ++ (List.replicate k its).flatten).toArray
 | 0,acc=>by simp
 | k + 1,acc=>by
  have e:acc.toArray ++ its.toArray=(acc ++ its).toArray:=by simp
  have e2:(acc ++ its) ++ (List.replicate k its).flatten=acc ++ (List.replicate (k + 1) its).flatten:=by
   rw [List.replicate_succ,List.flatten_cons,List.append_assoc]
  rw [← e2,← JB its k (acc ++ its),← e,List.replicate_succ,List.foldl_cons]
section
variable {X:Cx} {pins:List (10:)} {σ:St} {H:Hp} {s:Shared} {l b:Addr} {xs ys zs:List V}
theorem Inv.lset {its its':List Value} {n:Nat} {f:Array Value→Array Value} {t':Nat} (I:Inv X pins σ H s) (hH:H l=some (.lst xs))
 (e:s.heap.get? l=some { cls:=.type "list", data:=.seq its.toArray n }) (hf:f its.toArray=its'.toArray) (hv:Vals ys its') (hz:ys.length≤sizeLine) :
 Inv X pins σ (upd H l (.lst ys)) { s with heap:=s.heap.update l (Obj.mapSeq f),toks:=t' }:=by
 have q:=PySem.IsL.update e f
 rw [hf] at q
 refine I.write (x:=l) (e:=l) (by rw [hH];exact trivial) (.inl rfl) (fun b' u hb hu=>(Heap.get?_update_other s.heap (Obj.mapSeq f) (Ne.symm hb)).trans hu) ⟨_,q⟩ ?_
 exact ⟨hz,its',_,hv,q⟩
theorem Inv.lnew {its:List Value} {t':Nat} (I:Inv X pins σ H s) (hv:Vals ys its) (hz:ys.length≤sizeLine) :
 Inv X pins σ (upd H s.heap.objs.size (.lst ys)) { s with heap:=s.heap.push { cls:=.type "list", data:=.seq its.toArray },toks:=t' } :=
 I.laid (fun _ _ q=>Heap.get?_push_of_some _ q) (9:) ⟨hz,its,0,hv,Heap.get?_push_size _ rfl⟩
theorem Inv.fresh (I:Inv X pins σ H s):H s.heap.objs.size=none:=I.hok.fresh (9:)
theorem Inv.lstM (I:Inv X pins σ H s) (hH:H l=some (.lst xs)):xs.length≤sizeLine∧∃ (its:List Value) (n:Nat),Vals xs its∧xs.length=its.length∧s.heap.get? l=some { cls:=.type "list", data:=.seq its.toArray n }:=by
 obtain ⟨z,its,n,r,e⟩:=I.hok l _ hH
 exact ⟨z,its,n,r,r.length,e⟩
theorem Le {n:Nat} (h:n≤sizeLine):Builtin.List.listTooLong n=false:=by
 unfold Builtin.List.listTooLong
 exact decide_eq_false (11:)
end
section
variable {X:Cx}
def LF:V→List V→Hp→VK→Prop:=fun x vs H Q=>∃ l xs y,x=.ref l∧vs=[y]∧H l=some (.lst xs)∧xs.length < sizeLine∧Q .non (upd H l (.lst (xs ++ [y])))
theorem QR:MtM X "list.append" LF:=by
 intro pins s σ H x vs v us Q I rx rv h
 obtain ⟨l,xs,y,rfl,rfl,hH,hz,q⟩:=h
 cases rx
 obtain ⟨u,rfl,ru⟩:=rv.one
 obtain ⟨z,its,n,r,hl,e⟩:=I.lstM hH
 refine call_meets F.slot_list_append ⟨_,e,rfl⟩ F.entry_list_append (F.args_list_append_2 _ _) (PySem.list_append l its.toArray n u (by rw [List.size_toArray];lia)) ⟨e,?_⟩
 refine ⟨.non,_,I.lset (its':=its ++ [u]) hH e (27:) (r.append (.cons ru .nil)) ?_,rfl,q⟩
 rw [List.length_append,List.length_singleton]
 lia
def LP:V→List V→Hp→VK→Prop:=fun x vs H Q=>∃ l b xs zs,x=.ref l∧vs=[.ref b]∧H l=some (.lst xs)∧H b=some (.lst zs)∧xs.length + zs.length≤sizeLine∧Q .non (upd H l (.lst (xs ++ zs)))
theorem Jh:MtM X "list.extend" LP:=by
 intro pins s σ H x vs v us Q I rx rv h
 obtain ⟨l,b,xs,zs,rfl,rfl,hH,hB,hz,q⟩:=h
 cases rx
 obtain ⟨u,rfl,ru⟩:=rv.one
 cases ru
 obtain ⟨z,its,n,r,hl,e⟩:=I.lstM hH
 obtain ⟨z2,its2,n2,r2,hl2,e2⟩:=I.lstM hB
 have hsz:its.toArray.size + its2.toArray.size≤sizeLine:=by rw [List.size_toArray,List.size_toArray];lia
 have hlong:¬ (!its.toArray.isEmpty && Builtin.List.listTooLong (its.toArray.size + its2.toArray.size))=true:=by
  rw [Le hsz,Bool.and_false]
  exact Bool.false_ne_true
 refine call_meets F.slot_list_extend ⟨_,e,rfl⟩ F.entry_list_extend (F.args_list_extend_2 _ _)
  (AutoSeq1.list_extend_list_list_0 l its.toArray n b its2.toArray n2 hlong (by rw [List.size_toArray];lia) (11:)) ⟨e,e2,?_⟩
 refine ⟨.non,_,I.lset (its':=its ++ its2) hH e (27:) (r.append r2) ?_,rfl,q⟩
 rw [List.length_append]
 lia
def Pp:V→List V→Hp→VK→Prop:=fun x vs H Q=>∃ l xs y,x=.ref l∧vs=[]∧H l=some (.lst xs)∧xs[xs.length - 1]?=some y∧Q y (upd H l (.lst xs.dropLast))
theorem Nw:MtM X "list.pop" Pp:=by
 intro pins s σ H x vs v us Q I rx rv h
 obtain ⟨l,xs,y,rfl,rfl,hH,hy,q⟩:=h
 cases rx
 have hus:=rv.zero
 subst hus
 obtain ⟨z,its,n,r,hl,e⟩:=I.lstM hH
 obtain ⟨u,hu,ru⟩:=r.get hy
 have hy':its.toArray[its.toArray.size - 1]?=some u:=by
  show its.toArray[its.length - 1]?=some u
  rw [← Array.getElem?_toList,← hl]
  exact hu
 refine call_meets F.slot_list_pop ⟨_,e,rfl⟩ F.entry_list_pop (F.args_list_pop_1 _) (MeetsSeq.list_pop_last l its.toArray n u hy' (by rw [List.size_toArray];lia)) ⟨e,?_⟩
 refine ⟨y,_,I.lset (its':=its.dropLast) hH e ?_ r.dropLast ?_,ru,q⟩
 ·show its.toArray.eraseIdxIfInBounds (its.toArray.size - 1)=its.dropLast.toArray
  rw [List.size_toArray,List.eraseIdxIfInBounds_toArray,Wv]
 ·rw [List.length_dropLast]
  lia
theorem Ms {α:Type} (xs:List α) (k:Nat):(List.replicate k xs).flatten.length=k * xs.length:=by
 induction k with
 | zero=>simp
 | succ k ih=>rw [List.replicate_succ,List.flatten_cons,List.length_append,ih,Nat.succ_mul,Nat.add_comm]
end
section
variable {prog:Program} {w:World} {A:Around} {E:Value→Shared→Prop} {s:Shared}
set_option maxRecDepth 100000 in
end
section
variable {X:Cx}
end
end L2
namespace Att
open PySem PySem.W PySem.Calls PyProof.Rows
theorem Uf {P:Params} {h:Heap}:∀ (ns:List Int) (vs:List Value),WellAll P h vs (ns.map WData.int)→IntsAre vs ns:=by
 intro ns
 induction ns with
 | nil =>
  intro vs w
  rw [List.map_nil] at w
  cases w
  exact .nil
 | cons n ns ih =>
  intro vs w
  rw [List.map_cons] at w
  cases w with
  | cons a b =>
   cases a
   exact .cons _ _ (ih _ b)
theorem VH {l:OpenLaw} {n:Nat} (hn:l.most=some n) {P:Params} {h:Heap} {args:List WData} {vals:List Value}
 (hpre:l.row.toRowW.claim.pre args=true) (hwl:WellAll P h vals args) :
 ∃ a vs ns,vals=[Value.ref a]∧args=[WData.list (ns.map WData.int)]∧h.get? a=some { cls:=.type "list", data:=.seq vs.toArray }∧IntsAre vs ns∧ns.length≤n:=by
 have hsh:WShape.hasAll [] args [.list .int]=true:=(pre_splitW hpre).1
 have hc:l.pre.holds [] { args:=args }=true:=(pre_splitW hpre).2
 obtain ⟨d,r,rfl,h1,h2⟩:=hasAllW_cons hsh
 obtain rfl:=hasAllW_nil h2
 obtain ⟨xs,rfl,h3⟩:=hasW_list h1
 obtain ⟨ns,rfl⟩:=items_int h3
 have hlen:ns.length≤n:=by
  unfold OpenLaw.pre at hc
  have h4:(WTm.not (.lt (.lit (.int (n:Int))) (.len (.arg 0)))).holds [] { args:=[.list (ns.map .int)] }=true:=by
   have h4:=(holds_andW hc).1
   rw [hn] at h4
   exact h4
  have h5:=condW_of h4 (w_not (w_lt w_lit (w_len_list (w_arg rfl))))
  rw [List.length_map] at h5
  refine Nat.le_of_not_lt fun q=>?_
  have q':(n:Int) < ((ns.length:Nat):Int):=by lia
  first
   | (rw [decide_eq_true q'] at h5;exact absurd h5 (18:))
   | (simp at h5;lia)
 cases hwl with
 | cons w1 w2 =>
  cases w2
  cases w1 with
  | list ho hall=>exact ⟨_,_,ns,rfl,rfl,ho,Uf ns _ hall,hlen⟩
theorem VM (l:OpenLaw) (args:List WData):l.row.toRowW.claim.post args (.bool true) args=true :=
 postW_of (r:=l.row.toRowW) (X:=(true == true))
  (show WShape.has [] (.bool true) .bool=true by first | rfl | decide | simp [WShape.has,WShape.arms,WShape.armsAll])
  (show (WTm.eq .res (.lit (.bool true))).value [] { args:=args,res:=some (.bool true),after:=args }=some (.bool (true == true)) from w_eq_bool (w_res rfl) w_lit) rfl
theorem attach_call {l:OpenLaw} {n:Nat} {q:Program} {loose:List Str} {XP:(Str→Option Value)→Heap→Prop} {YP:World→Heap→Prop} {d:DefRec}
 (hn:l.most=some n) (hdf:d.params.defaults=[])
 (call:∀ (w:World) (s₀ s₁:Shared) (mg mb:Str→Option Value) (fa:Addr) (o:Obj) (pm cd doc:Value) (a:Addr) (vs:List Value) (ns:List Int),Ground q loose [] XP w s₀ mg mb s₁.heap→YP w s₁.heap →
  s₁.heap.get? fa=some o→o.data=.func (docDef d.name d.params d.body d.scope pm cd doc)→s₁.heap.CodeRec cd d.name→mg d.name=some (.ref fa) →
  s₁.heap.get? a=some { cls:=.type "list", data:=.seq vs.toArray }→IntsAre vs ns→ns.length≤n→s₁.gens=#[] →
  codeAny (model l.prog w) callerA (.call (.ref fa) ⟨[.ref a],[]⟩) (59:) s₁) :
 WalkO q loose XP YP l.row.toRowW d [] (fun f vs=>PySem.call f vs):=by
 intro w s₀ s₁ mg mb G Y fa o pm cd doc dV kV ho hd hcd hD hmg hg args vals as hpre hlay hrd hwl hlo
 obtain rfl:dV=.none:=Dflts.none hD hdf
 obtain rfl:kV=.none:=Dflts.noKw hD
 obtain ⟨a,vs,ns,rfl,rfl,hobj,hints,hlen⟩:=VH hn hpre hwl
 refine enter_call (codeAny_mono (call w s₀ s₁ mg mb fa o pm cd doc a vs ns G Y ho (fd_plain hd) hcd hmg hobj hints hlen hg) fun r s' hq=>?_)
 obtain ⟨rfl,h2,h3,h4⟩:=hq
 exact ⟨.inl ⟨.bool true,.bool true,[],rfl,fun _=>rfl,.bool true,VM l _,fun _=>⟨List.Pairwise.nil,fun _ hm=>(nomatch hm)⟩⟩,h2,h3,h4⟩
section
variable {prog:Program} {w:World} {A:Around} {E:Value→Shared→Prop} {s:Shared} {K:Frag}
def O9 (h:Heap) (L d:Addr):List (10:):=(List.range h.objs.size).filterMap fun a=>if a=L∨a=d then none else (h.get? a).map fun o=>(a,o)
end
end Att
namespace L2
open PySem PySem.Spec PyProof.Rows
theorem Jw:∀ {vs:List Value} {ns:List Int},IntsAre vs ns→Vals (ns.map V.int) vs
 | _,_,.nil=>.nil
 | _,_,.cons n t h=>.cons ⟨t,rfl⟩ (Jw h)
def Nj (H:Hp):Prop:=∀ b,H b=none∨∃ o xs,H b=some (.frz o (.lst xs))
theorem G0 {P:Program} {w:World} {K:PySem.W.Frag} {mg mb:Str→Option Value} {CX:CXT} {k:Nat} {fa a:Addr} {fd:FuncData} {x:Str} {sp:Sp} {s₁:Shared} {vs:List Value} {ns:List Int}
 (KX:K.In s₁.heap) (hns:s₁.heap.Ns mainGlobals mg) (hb:s₁.heap.Ns builtinsNs mb) (hbb:∀ x:Str,x ≠ "__name__" → mb x=bootBuiltins x) (hlim:s₁.heap.NoLimit) (hg:s₁.gens=#[])
 (ha:s₁.heap.get? a=some { cls:=.type "list", data:=.seq vs.toArray }) (hi:IntsAre vs ns) (hl:ns.length≤sizeLine) (hr:Room k callerA)
 (F:∀ base:Heap,K.In base→base.Ns mainGlobals mg→FnOk P w K mg base CX k fa fd [x] sp) (hbind:∀ (s:Shared) (u:Value),BindsTo s fd ⟨[u],[]⟩ [(x,u)])
 (hsp:∀ H:Hp,Nj H→SqL K H a (ns.map V.int)→sp [.ref a] H (fun v _=>v=.bl true) fun _ _ _=>False)
 (hCX:∀ H e s',CX [] H s₁ (fun _ _ _=>False) e s'→False) :
 codeAny (model P w) callerA (.call (.ref fa) ⟨[.ref a],[]⟩) (59:) s₁:=by
 have rv:=Jw hi
 have lenV:=hi.length
 have core:∀ H:Hp,Nj H→SqL K H a (ns.map V.int)→HOk P w H s₁.heap→(∀ b,H b≠none→b=a)→(H a≠none→K.lookup a=none) →
  codeAny (model P w) callerA (.call (.ref fa) ⟨[.ref a],[]⟩) (59:) s₁:=by
  intro H hO hS hok hA hK
  have base_of:∀ {b:Addr} {o:Obj},s₁.heap.get? b=some o→H b=none→(JK s₁.heap H).get? b=some o:=fun e n=>Gz e n
  have noA:∀ {b:Addr} {o:Obj} {es:Array DictEntry} {ep:Nat},s₁.heap.get? b=some o→o.data=.dict es ep→H b=none:=fun {b o es ep} e d=>by
   cases q:H b with
   | none=>rfl
   | some u =>
    have e':b=a:=hA b (by rw [q];simp)
    subst e'
    rw [ha] at e;cases e
    have d':Data.seq vs.toArray _=Data.dict es ep:=d
    cases d'
  have nsK:∀ {b:Addr} {m:Str→Option Value},s₁.heap.Ns b m→(JK s₁.heap H).Ns b m:=fun {b m} ⟨o,es,ep,e,d,r⟩=>⟨o,es,ep,base_of e (noA e d),d,r⟩
  have hKb:K.In (JK s₁.heap H):=fun b o e=>base_of (KX b o e) (by
   cases q:H b with
   | none=>rfl
   | some u =>
    have e':b=a:=hA b (by rw [q];simp)
    subst e'
    rw [hK (by rw [q];simp)] at e;cases e)
  have hM:Mod K mg (JK s₁.heap H):=⟨hKb,nsK hns,⟨mb,nsK hb,hbb⟩,let ⟨mc,h1,h2⟩:=hlim;⟨mc,nsK h1,h2⟩⟩
  have e0:Env0 P w K mg (JK s₁.heap H) callerA [] s₁ H:=⟨rfl,hM,fun b o e=>MJ e,Nat.le_of_eq (VI _ _),trivial,fun b hb=>absurd (show b ∈ ([]:List Addr) from hb) (27:),hok,.of_eq hg⟩
  refine codeAny_mono ((F _ hKb (nsK hns)).run callerA [] s₁ H ⟨[.ref a],[]⟩ [.ref a] [.ref a] _ _ hr e0 (hbind s₁ (.ref a)) (.cons rfl .nil) (hsp H hO hS)) fun r s' h=>?_
  cases r with
  | error e=>exact (hCX H e s' h).elim
  | ok fl =>
   cases fl with
   | next=>exact False.elim h
   | brk=>exact False.elim h
   | cont=>exact False.elim h
   | ret u =>
    obtain ⟨v,H',os,bare,un,hok',r',q⟩:=h
    have q':v=.bl true:=q
    subst q'
    obtain rfl:u=Value.bool true:=r'
    refine ⟨rfl,OldK.of_keep fun b o e=>?_,os,bare⟩
    cases q:H b with
    | none=>exact un.keep b o e q (by intro z;exact absurd (show b ∈ ([]:List Addr) from z) (27:)) (27:)
    | some u =>
     rcases hO b with z | ⟨ob,xs,z⟩
     ·rw [q] at z;cases z
     ·have z2:=un.frzs b ob _ z
      obtain ⟨e1,_⟩:=hok b _ z
      obtain ⟨e2,_⟩:=hok' b _ z2
      rw [e] at e1;cases e1
      exact e2
 cases hk:K.lookup a with
 | some o =>
  have e:=KX a o hk
  rw [ha] at e
  cases e
  refine core (fun _=>none) (fun _=>.inl rfl) (.inr ⟨_,vs.toArray,_,hk,rfl,rfl,rfl,by rw [List.size_toArray,lenV];exact hl,by simpa using rv⟩) (fun b u z=>by have z':(none:Option HO)=some u:=z;cases z') (fun b z=>absurd rfl z) fun z=>absurd rfl z
 | none =>
  refine core (fun b=>if b=a then some (.frz { cls:=.type "list", data:=.seq vs.toArray } (.lst (ns.map V.int))) else none) (fun b=>?_) (.inl (.inr ⟨{ cls:=.type "list", data:=.seq vs.toArray },if_pos rfl⟩)) (fun b u z=>?_) (fun b z=>?_) fun _=>hk
  ·by_cases hb:b=a
   ·exact .inr ⟨_,_,if_pos hb⟩
   ·exact .inl (if_neg hb)
  ·by_cases hb:b=a
   ·have z':=(if_pos hb).symm.trans z
    cases z'
    subst hb
    exact ⟨ha,by rw [List.length_map];exact hl,vs,_,rv,ha⟩
   ·have z':=(if_neg hb).symm.trans z
    cases z'
  ·by_cases hb:b=a
   ·exact hb
   ·exact absurd (if_neg hb) z
end L2
namespace L2
open PySem PySem.Spec PyProof.Rows
abbrev KOf {K:PySem.W.Frag} {h:Heap} (_:K.In h):PySem.W.Frag:=K
theorem walk_of {l:PySem.W.OpenLaw} {n k:Nat} {q:Program} {loose:List Str} {XP:(Str→Option Value)→Heap→Prop} {YP:World→Heap→Prop} {d:DefRec} {K:Params→PySem.W.Frag} {CX:World→CXT} {sp:World→Sp} {x:Str}
 (hn:l.most=some n) (hn2:n≤sizeLine) (hdf:d.params.defaults=[]) (hr:Room k callerA)
 (hY:∀ (w:World) (h:Heap),YP w h→(K w.params).In h)
 (F:∀ (w:World) (mg:Str→Option Value) (fa:Addr) (h:Heap),(K w.params).In h→h.Ns mainGlobals mg→mg d.name=some (.ref fa) →
  ∃ fd:FuncData,(∀ (s:Shared) (u:Value),BindsTo s fd ⟨[u],[]⟩ [(x,u)]) ∧
   ∀ base:Heap,(K w.params).In base→base.Ns mainGlobals mg→FnOk l.prog w (K w.params) mg base (CX w) k fa fd [x] (sp w))
 (hsp:∀ (w:World) (H:Hp) (a:Addr) (ns:List Int),ns.length≤n→Nj H→SqL (K w.params) H a (ns.map V.int)→sp w [.ref a] H (fun v _=>v=.bl true) fun _ _ _=>False)
 (hCX:∀ (w:World) (H:Hp) (s:Shared) (e:Value) (s':Shared),CX w [] H s (fun _ _ _=>False) e s'→False) :
 PySem.W.WalkO q loose XP YP l.row.toRowW d [] (fun f vs=>PySem.call f vs):=by
 refine Att.attach_call hn hdf fun w s₀ s₁ mg mb fa o pm cd doc a vs ns G Y ho hd hcd hmg hobj hints hlen hg=>?_
 have KX:=hY w _ Y
 obtain ⟨fd,hb,hF⟩:=F w mg fa _ KX G.T.g hmg
 exact G0 KX G.T.g G.T.b G.T.builtins G.T.nolimit hg hobj hints (Nat.le_trans hlen hn2) hr hF hb (fun H hO hS=>hsp w H a ns hlen hO hS) fun H e s'=>hCX w H s₁ e s'
end L2
/- THE LAST THEOREM (shape;LID,My.* are yours):
 My.Adr: a structure of the addresses that your layer names (classes,functions);My.Txt K t: a structure (Prop) of the equations over K;
 My.txt_mk:{K} {implicit addresses ..} (e1:nsIn K mainGlobals "law" = some (some (.ref f))) (e2:K.lookup f=some ⟨oc,od,.func (fnOf "law" "law" params body scope dV kV doc pm an cdv ct),sl⟩) (e3:codeIn K cdv "law" = true) .. : ∃ t,My.Txt K t
set_option maxRecDepth 100000 in
set_option maxHeartbeats 0 in
theorem PySem.Challenge.cw_LID_holds : PySem.Challenge.rw_LID.Holds := by
 w_on;o_law;k_head;(case hw=>w_witness2)
 k_fill
 refine L2.walk_of (l:=PySem.Challenge.rw_LID) (n:=63) (k:=40) (x:="script") (CX:=fun w=>..) (sp:=fun _=>My.sp_law) rfl (18:) rfl ⟨rfl,by decide,by decide⟩ (fun w h Y=>PySem.W.kIn_of Y) ?F ?S ?C
 case F =>
  intro w mg fa h KX G hmg
  have T:∃ t,My.Txt (L2.KOf KX) t:=by
   dsimp only [L2.KOf]                          -- K must stand as «<heap const> w.params» for k_is
   refine' My.txt_mk ?e1 ?e2 ?e3 ..
   (case e1=>PySem.W.k_is)                    -- in the order: a name -> its address -> its object -> its parts
   (case e2=>PySem.W.k_is)
   ..
  obtain ⟨t,T⟩:=T
  have e0:=hmg.symm.trans (PySem.W.mg_of KX G T.law)
  cases e0                                       -- fa is the law's own address
  exact ⟨_,fun s u=>.of_eq rfl,fun base kb nb=>My.law_fn T kb nb⟩     -- if «.of_eq rfl» comes too early: refine' ⟨_,?b,fun base kb nb=>My.law_fn T kb nb⟩;exact fun s u=>.of_eq rfl
 case S=>exact fun w H a ns hl hO hS=>..
 case C=>exact ..
(the tactic k_is has no namespace: write k_is) -/
namespace L2
open PySem PySem.Spec PyProof.Rows
def inClass (s:Stmt) (j:Nat):Stmt:=match s with
 | .ClassDef _ _ _ body _ _ _ _ _ _ _=>body.getD j (.Pass ⟨0,0,0,0⟩)
 | _=>.Pass ⟨0,0,0,0⟩
def defArgs (s:Stmt):Arguments:=match s with
 | .FunctionDef _ a _ _ _ _ _ _ _ _=>a
 | _=>{ posonlyargs:=[],args:=[],vararg:=none,kwonlyargs:=[],kw_defaults:=[],kwarg:=none,defaults:=[] }
def defBody (s:Stmt):List Stmt:=match s with
 | .FunctionDef _ _ b _ _ _ _ _ _ _=>b
 | _=>[]
def defScope (s:Stmt):Scope:=match s with
 | .FunctionDef _ _ _ _ _ _ sc _ _ _=>sc
 | _=>{ kind:=.function,names:=[],isGenerator:=false,isCoroutine:=false }
abbrev CX0:CXT:=fun _ _ _ _ _ _=>False
abbrev E0:XK:=fun _ _ _=>False
theorem YC {X:Cx}:Ys CX0 X E0:=fun _ _ _ _ _ _ _ h=>h.elim
structure Fun (K:PySem.W.Frag) (x qual:Str) (st:Stmt) (f:Addr) (fd:FuncData):Prop where
 ex:∃ (oc:Value) (od:Option Addr) (kV doc pm:Value) (an:Option Addr) (cdv ct:Value) (osl:Array (Option Value)),
  fd=PySem.W.fnOf x qual (defArgs st) (defBody st) (defScope st) .none kV doc pm an cdv ct∧K.lookup f=some ⟨oc,od,.func fd,osl⟩∧PySem.W.codeIn K cdv qual=true
 kp:PySem.W.keepIn K (.ref f)=true
section
variable {P:Program} {w:World} {K:PySem.W.Frag} {mg:Str→Option Value} {base:Heap}
theorem Fun.ok {x qual:Str} {st:Stmt} {f:Addr} {fd:FuncData} {N ps:List Str} {k:Nat} {sp:Sp} (F:Fun K x qual st f fd) (S:FnScope N ps (defScope st)) (len:∀ vs H Q E,sp vs H Q E→vs.length=ps.length)
 (hbody:∀ (cdv:Value) (A:Around) (outer:List Env) (s:Shared) (H:Hp) (vs:List V) (Q:VK) (E:XK),Room k (A.deeper (envOfC qual (defScope st) s.heap.objs.size f cdv))→sp vs H Q E →
  ∃ t,PSs (VB CX0 P w K mg base N qual (defScope st) f cdv A outer s H E).nox (defBody st) t∧t { nx:=fun _ H'=>Q .non H',rt:=Q } (start N vs) H):FnOk P w K mg base CX0 (k + 1) f fd ps sp:=by
 obtain ⟨oc,od,kV,doc,pm,an,cdv,ct,osl,rfl,lk,hcd⟩:=F.ex
 refine N0 lk hcd S len fun A outer s H vs Q E hr hsp=>?_
 obtain ⟨t,h,q⟩:=hbody cdv A outer s H vs Q E hr hsp
 exact ⟨t,h.nox,q⟩
theorem Fun.binds {x qual:Str} {st:Stmt} {f:Addr} {fd:FuncData} {ps:List Str} (F:Fun K x qual st f fd)
 (h:∀ (kV doc pm:Value) (an:Option Addr) (cdv ct:Value) (us:List Value),us.length=ps.length→bindArgs (PySem.W.fnOf x qual (defArgs st) (defBody st) (defScope st) .none kV doc pm an cdv ct) ⟨us,[]⟩=pure (ps.zip us)):Binds K fd ps []:=by
 obtain ⟨oc,od,kV,doc,pm,an,cdv,ct,osl,rfl,lk,hcd⟩:=F.ex
 exact .all (h kV doc pm an cdv ct)
theorem Zj {x qual:Str} {st:Stmt} {f:Addr} {oc:Value} {od an:Option Addr} {osl:Array (Option Value)} {kV doc pm cdv ct:Value} (l:K.lookup f=some ⟨oc,od,.func (PySem.W.fnOf x qual (defArgs st) (defBody st) (defScope st) .none kV doc pm an cdv ct),osl⟩)
 (c:PySem.W.codeIn K cdv qual=true) (k:PySem.W.keepIn K (.ref f)=true):Fun K x qual st f (PySem.W.fnOf x qual (defArgs st) (defBody st) (defScope st) .none kV doc pm an cdv ct):=⟨⟨oc,od,kV,doc,pm,an,cdv,ct,osl,rfl,l,c⟩,k⟩
end
theorem Ze {A:Around} {k:Nat} (hr:Room k A):A.units + 1 < cLine:=Nat.lt_of_le_of_lt (Nat.add_le_add_left (by decide:1≤64) _) hr.units
theorem Jx {n:Nat} (h:n≤1000):n < sizeLine:=Nat.lt_of_le_of_lt h (18:)
section
variable {X:Cx}
theorem pv (i:Nat) {x:Str} {pos:Pos} (hN:X.N[i]?=some x:=by rfl) (hv:Vis X.env.scope x:=by first | exact Or.inl rfl | exact Or.inr (7:) | exact Or.inr (Or.inr rfl)) (hd:(49:)=false:=by decide)
 (hcd:(x == ("__classdict__" : Str))=false:=by decide):PE X (.Name x pos) (ZI i):=M8 hN hv hd hcd
end
theorem Q3 {A B:Prop} (h:B):if false=true then A else B:=by
 rw [if_neg Bool.false_ne_true]
 exact h
theorem Q8 {A B:Prop} (h:A):if true=true then A else B:=by
 rw [if_pos rfl]
 exact h
theorem Yl {c A B:Prop} [Decidable c] (h1:c→A) (h2:¬ c→B):if c then A else B:=by
 by_cases h:c
 ·rw [if_pos h]
  exact h1 h
 ·rw [if_neg h]
  exact h2 h
theorem Gu {c A B:Prop} [Decidable c] (hc:c) (h:B):if (!decide c)=true then A else B:=by
 rw [decide_eq_true hc]
 exact Q3 h
def Same (H H':Hp):Prop:=∀ b o,H b=some o→H' b=some o
theorem Same.refl (H:Hp):Same H H:=fun _ _ h=>h
theorem Same.trans {H H1 H2:Hp} (a:Same H H1) (b:Same H1 H2):Same H H2:=fun c o h=>b c o (a c o h)
theorem Same.seq {K:PySem.W.Frag} {H H':Hp} {a:Addr} {xs:List V} (e:Same H H') (h:SqL K H a xs):SqL K H' a xs:=by
 rcases h with (h | ⟨o,h⟩) | h
 ·exact .inl (.inl (e _ _ h))
 ·exact .inl (.inr ⟨o,e _ _ h⟩)
 ·exact .inr h
end L2
set_option maxHeartbeats 4000000
namespace L2
open PySem PySem.Spec PyProof.Rows
section
variable {X:Cx}
theorem Zu:Ym X (.builtin "isinstance") (fun xs H Q=>∃ x T t b,xs=[x,.ty T]∧TyOf X.K H x t∧PySem.W.kitOne X.K t (.type T)=some b∧Q (.bl b) H):=by
 intro pins s σ H xs us Q I r h
 obtain ⟨x,T,t,b,rfl,ty,e,q⟩:=h
 obtain ⟨u,c,rfl,rx,rc⟩:=MQ r
 cases (show c=Value.type T from rc)
 exact VF I rx ty e fun tk=>⟨.bl b,H,I.tok tk,rfl,q⟩
end
section
variable {X:Cx}
end
mutual
inductive RdV (K:PySem.W.Frag) (H:Hp):V→PyData→Prop where
 | non:RdV K H .non .none
 | bl (b:Bool):RdV K H (.bl b) (.bool b)
 | int (i:Int):RdV K H (.int i) (.int i)
 | str (x:Str):RdV K H (.str x) (.str x)
 | lst {a:Addr} {xs:List V} {ds:List PyData}:SqL K H a xs→RdAll K H xs ds→RdV K H (.ref a) (.list ds)
 | tup {a:Addr} {xs:List V} {ds:List PyData}:SqT K H a xs→RdAll K H xs ds→RdV K H (.ref a) (.tuple ds)
inductive RdAll (K:PySem.W.Frag) (H:Hp):List V→List PyData→Prop where
 | nil:RdAll K H [] []
 | cons {v:V} {vs:List V} {d:PyData} {ds:List PyData}:RdV K H v d→RdAll K H vs ds→RdAll K H (v :: vs) (d :: ds)
end
section
variable {X:Cx} {pins:List (10:)} {σ:St} {H:Hp} {s:Shared}
mutual
theorem RdV.reads (I:Inv X pins σ H s):∀ {v:V} {d:PyData} {u:Value},RdV X.K H v d→RelV v u→∃ as,Reads s.heap u d as
 | _,_,u,.non,r=>by cases (show u=Value.none from r);exact ⟨_,.none⟩
 | _,_,u,.bl b,r=>by cases (show u=Value.bool b from r);exact ⟨_,.bool b⟩
 | _,_,u,.int i,r=>by obtain ⟨t,e⟩:=(show ∃ t,u=Value.int i t from r);cases e;exact ⟨_,.int i t⟩
 | _,_,u,.str x,r=>by obtain ⟨t,e⟩:=(show ∃ t,u=Value.str x t from r);cases e;exact ⟨_,.str x t⟩
 | _,_,u,@RdV.lst _ _ a xs ds hq hr,r=>by
  cases (show u=Value.ref a from r)
  obtain ⟨its,rv,⟨o,n,e,c,_,dt⟩,_⟩:=I.list hq
  obtain ⟨as,q⟩:=RdAll.reads I hr rv
  exact ⟨_,.list e c dt (by simpa using q)⟩
 | _,_,u,@RdV.tup _ _ a xs ds hq hr,r=>by
  cases (show u=Value.ref a from r)
  obtain ⟨its,rv,⟨o,e,c,n,dt⟩,_⟩:=I.tuple hq
  obtain ⟨as,q⟩:=RdAll.reads I hr rv
  exact ⟨_,.tuple e c dt (by simpa using q)⟩
theorem RdAll.reads (I:Inv X pins σ H s):∀ {vs:List V} {ds:List PyData} {us:List Value},RdAll X.K H vs ds→Vals vs us→∃ as,ReadsAll s.heap us ds as
 | _,_,_,.nil,r=>by cases r;exact ⟨_,.nil⟩
 | _,_,_,.cons h t,r=>by
  cases r with
  | cons r1 r2 =>
   obtain ⟨as,q⟩:=RdV.reads I h r1
   obtain ⟨bs,q2⟩:=RdAll.reads I t r2
   exact ⟨_,.cons q q2⟩
end
end
section
variable {X:Cx}
def LC (K:PySem.W.Frag) (A:Around) (neg:Bool):R2:=fun x y H Q=>∃ d e:PyData,RdV K H x d∧RdV K H y e∧d.canLay0=true∧e.canLay0=true∧A.units + min d.depth e.depth < cLine∧Q (.bl (if neg then !PyData.eqv d e else PyData.eqv d e)) H
theorem Lc:OpR X (compareOp .Eq) (LC X.K X.A false):=by
 intro pins s σ H x y v u Q I rx ry h
 obtain ⟨d,e,hd,he,cd,ce,hu,q⟩:=h
 obtain ⟨as,q1⟩:=hd.reads I rx
 obtain ⟨bs,q2⟩:=he.reads I ry
 exact SeqAt.compareEq_reads q1 q2 cd ce hu ⟨.bl _,H,I,rfl,q⟩
theorem Y5:OpR X (compareOp .NotEq) (LC X.K X.A true):=by
 intro pins s σ H x y v u Q I rx ry h
 obtain ⟨d,e,hd,he,cd,ce,hu,q⟩:=h
 obtain ⟨as,q1⟩:=hd.reads I rx
 obtain ⟨bs,q2⟩:=he.reads I ry
 exact SeqAt.compareNe_reads q1 q2 cd ce hu ⟨.bl _,H,I,rfl,q⟩
end
mutual
theorem Ya:∀ d:PyData,d.canLay0=true→PyData.eqv d d=true
 | .none,_=>by simp [PyData.eqv]
 | .bool _,_=>by simp [PyData.eqv]
 | .int _,_=>by simp [PyData.eqv]
 | .str _,_=>by simp [PyData.eqv]
 | .list xs,h=>by
  simp only [PyData.eqv]
  exact Z5 xs (by simpa [PyData.canLay0] using h)
 | .tuple xs,h=>by
  simp only [PyData.eqv]
  exact Z5 xs (by simpa [PyData.canLay0] using h)
 | .dict _,h=>by simp [PyData.canLay0] at h
theorem Z5:∀ ds:List PyData,PyData.canLayAll0 ds=true→PyData.eqvAll ds ds=true
 | [],_=>by simp [PyData.eqvAll]
 | d :: ds,h=>by
  simp only [PyData.canLayAll0,Bool.and_eq_true] at h
  simp only [PyData.eqvAll,Bool.and_eq_true]
  exact ⟨Ya d h.1,Z5 ds h.2⟩
end
end L2
namespace L2
open PySem PySem.Spec PyProof.Rows
structure Fn (P:Program) (w:World) (K:PySem.W.Frag) (mg:Str→Option Value) (base:Heap) (k:Nat) (x:Str) (ps:List Str) (sp:Sp):Prop where
 ex:∃ (f:Addr) (fd:FuncData),FnOk P w K mg base CX0 k f fd ps sp∧Binds K fd ps []∧PySem.W.keepIn K (.ref f)=true∧mg x=some (.ref f)
theorem Qs {X:Cx} {k k':Nat} {x:Str} {ps:List Str} {sp:Sp} {p pos:Pos} {e:Expr} {es:List Expr} {t:TA} (F:Fn X.prog X.w X.K X.mg X.base k x ps sp) (hr:Room k' X.A) (ha:PA X (e :: es) t) (hk:k≤k':=by decide) (hg:Gl X x:=by rfl)
 (hdb:(49:)=false:=by decide) (he:starEach (e :: es) X.env=(false,eval e X.env) :: starEach es X.env:=by rfl) (hpl:(backTo pos (starEach es X.env)).any (·.1)=false:=by rfl) :
 PE X (.Call (.Name x p) (e :: es) [] pos) (GT sp [] E0 t):=by
 obtain ⟨f,fd,h1,h2,h3,h4⟩:=F.ex
 exact LM h1 (hr.mono hk) hg h4 h3 h2 .nil YC ha hdb he hpl
theorem Yr {c A B:Prop} [Decidable c] (hc:c) (h:A):if decide c=true then A else B:=by
 rw [decide_eq_true hc]
 exact Q8 h
theorem ZP {c A B:Prop} [Decidable c] (hc:¬ c) (h:B):if decide c=true then A else B:=by
 rw [decide_eq_false hc]
 exact Q3 h
theorem Qf {H:Hp} {p:Addr} (h:H p=Option.none) (o:HO):Same H (upd H p o):=fun b u q=>by rw [Qj (Qk q h)];exact q
def S (l:List Nat):Str:=⟨l.toArray⟩
theorem Ga (l:List Nat):(S l).cps.toList=l:=by simp [S]
theorem Ln (l:List Nat):(S l).length=l.length:=by simp [S,Str.length]
theorem M0 {a b:List Nat} (h:S a=S b):a=b:=by
 have:=congrArg (fun z:Str=>z.cps.toList) h
 simpa [Ga] using this
end L2
namespace L2
open PySem PySem.Spec PyProof.Rows
def OY (t:TS):TS:=fun D σ H=>∃ R:St→Hp→Prop,t { D with nx:=R } σ H∧∀ σ' H',R σ' H'→D.nx σ' H'
theorem Yt {X:Cx} {st:Stmt} {t:TS} (h:PS X st t):PS X st (OY t):=by
 intro pins s σ H D I hw
 obtain ⟨R,h1,h2⟩:=hw
 refine thn (h pins s σ H { D with nx:=R } I h1) fun f s1 q=>?_
 cases f with
 | next =>
  obtain ⟨σ',H',I',q⟩:=q
  exact ⟨σ',H',I',h2 _ _ q⟩
 | brk=>exact q
 | cont=>exact q
 | ret v=>exact q
theorem Yy:∀ xs:List Str,PyData.depthAll (xs.map PyData.str)=0
 | []=>by simp [PyData.depthAll]
 | x :: r=>by simp [PyData.depthAll,PyData.depth,Yy r]
end L2
namespace L2
open PySem PySem.Spec PyProof.Rows
structure DefAt (K:PySem.W.Frag) (x:Str) (st:Stmt):Prop where
 ex:∃ (f:Addr) (oc:Value) (od:Option Addr) (kV doc pm:Value) (an:Option Addr) (cdv ct:Value) (osl:Array (Option Value)),
  PySem.W.nsIn K mainGlobals x=some (some (.ref f))∧K.lookup f=some ⟨oc,od,.func (PySem.W.fnOf x x (defArgs st) (defBody st) (defScope st) .none kV doc pm an cdv ct),osl⟩∧PySem.W.codeIn K cdv x=true∧PySem.W.keepIn K (.ref f)=true
theorem DefAt.mk' {K:PySem.W.Frag} {x:Str} {st:Stmt} {f:Addr} {oc:Value} {od:Option Addr} {kV doc pm:Value} {an:Option Addr} {cdv ct:Value} {osl:Array (Option Value)}
 (a:PySem.W.nsIn K mainGlobals x=some (some (.ref f))) (l:K.lookup f=some ⟨oc,od,.func (PySem.W.fnOf x x (defArgs st) (defBody st) (defScope st) .none kV doc pm an cdv ct),osl⟩) (c:PySem.W.codeIn K cdv x=true) (k:PySem.W.keepIn K (.ref f)=true):DefAt K x st :=
 ⟨f,oc,od,kV,doc,pm,an,cdv,ct,osl,a,l,c,k⟩
theorem DefAt.fn {P:Program} {w:World} {K:PySem.W.Frag} {mg:Str→Option Value} {base h:Heap} {k:Nat} {x:Str} {st:Stmt} {ps:List Str} {sp:Sp} (D:DefAt K x st) (X:K.In h) (G:h.Ns mainGlobals mg)
 (ok:∀ (f:Addr) (fd:FuncData),Fun K x x st f fd→FnOk P w K mg base CX0 k f fd ps sp)
 (hb:∀ (kV doc pm:Value) (an:Option Addr) (cdv ct:Value) (us:List Value),us.length=ps.length→bindArgs (PySem.W.fnOf x x (defArgs st) (defBody st) (defScope st) .none kV doc pm an cdv ct) ⟨us,[]⟩=pure (ps.zip us)):Fn P w K mg base k x ps sp:=by
 obtain ⟨f,oc,od,kV,doc,pm,an,cdv,ct,osl,a,l,c,kp⟩:=D.ex
 have F:=Zj (st:=st) l c kp
 exact ⟨f,_,ok f _ F,F.binds hb,kp,PySem.W.mg_of X G a⟩
end L2
namespace L2
open PySem PySem.Spec PyProof.Rows
section
variable {X:Cx}
def OK (K:PySem.W.Frag):R2:=fun x y H Q=>∃ a b xs ys,x=.ref a∧y=.ref b∧SqT K H a xs∧SqT K H b ys∧xs.length + ys.length≤sizeLine ∧
 ∀ p H',Same H H'→SqT K H' p (xs ++ ys)→Q (.ref p) H'
theorem Yi:OpR X (binaryOp .Add) (OK X.K):=by
 intro pins s σ H x y v u Q I rx ry h
 obtain ⟨a,b,xs,ys,e1,e2,ha,hb,hz,q⟩:=h
 by_cases hx:xs=[]
 ·subst e1;subst e2;subst hx
  cases (show v=Value.ref a from rx)
  cases (show u=Value.ref b from ry)
  obtain ⟨its,r1,p1,_⟩:=I.tuple ha
  obtain ⟨its2,r2,p2,_⟩:=I.tuple hb
  cases r1
  obtain ⟨⟨cls,dd,data,sl⟩,ho,hc,n,hd⟩:=id p1
  obtain ⟨⟨cls2,dd2,data2,sl2⟩,ho2,hc2,n2,hd2⟩:=id p2
  simp only at hc hd hc2 hd2
  subst hc hd hc2 hd2
  exact concat_meets ⟨_,ho,rfl⟩ ⟨_,ho2,rfl⟩ noFill_tuple_add seq_tuple_add PySem.F.slot_tuple_add PySem.F.entry_tuple_add (PySem.F.args_tuple_add_2 _ _)
   (tuple_addW0 a b _ its2.toArray n n2 dd dd2 sl sl2 rfl) ⟨ho,ho2,⟨.ref b,H,I,rfl,q b H (Same.refl H) (by simpa using hb)⟩⟩
 ·refine LR pins s σ H x y v u Q I rx ry ⟨a,b,xs,ys,e1,e2,ha,hb,hx,hz,fun hy=>?_,fun hy p hp=>?_⟩
  ·subst hy
   exact q a H (Same.refl H) (by simpa using ha)
  ·exact q p _ (Qf hp _) (SqT.of Qc)
theorem Same.seqT {K:PySem.W.Frag} {H H':Hp} {a:Addr} {xs:List V} (e:Same H H') (h:SqT K H a xs):SqT K H' a xs:=by
 rcases h with (h | ⟨o,h⟩) | h
 ·exact .inl (.inl (e _ _ h))
 ·exact .inl (.inr ⟨o,e _ _ h⟩)
 ·exact .inr h
def LU:V→List V→Hp→VK→Prop:=fun x vs H Q=>∃ l xs y,x=.ref l∧vs=[.int 0,y]∧H l=some (.lst xs)∧xs.length < sizeLine∧Q .non (upd H l (.lst (y :: xs)))
theorem WJ:MtM X "list.insert" LU:=by
 intro pins s σ H x vs v us Q I rx rv h
 obtain ⟨l,xs,y,e1,e2,hH,hz,q⟩:=h
 subst e1;subst e2
 cases (show v=Value.ref l from rx)
 obtain ⟨u0,u,e3,r0,ru⟩:=rv.two
 subst e3
 obtain ⟨t,e4⟩:=(show ∃ t,u0=Value.int 0 t from r0)
 subst e4
 obtain ⟨z,its,n,r,hl,e⟩:=I.lstM hH
 have hfit:¬ (!Builtin.List.listFitsIndex 0)=true:=by decide
 refine call_meets F.slot_list_insert ⟨_,e,rfl⟩ F.entry_list_insert (F.args_list_insert_3 _ _ _) (AutoSeq1.list_insert_list_int_val_1 l its.toArray n 0 t u hfit (by rw [List.size_toArray];lia)) ⟨e,?_⟩
 refine ⟨.non,_,I.lset (its':=u :: its) hH e ?_ (.cons ru r) ?_,rfl,q⟩
 ·apply Array.toList_inj.mp
  simp
 ·rw [List.length_cons];lia
end
section
variable {X:Cx} {tg:Expr}
end
end L2
namespace L2
open PySem PySem.Spec PyProof.Rows
def QP (X:Cx) (N':List Str) (scope:Scope) (cl:List (Str × Addr)) (C:Addr) (fp:List Addr) (s₀:Shared) (H₀:Hp):Cx :=
 { X with N:=N',s₀:=s₀,H₀:=H₀,env:=compEnvC scope cl C X.env,outer:=X.stack,ex:=fp,fn:=fun _=>false,pn:=[],xe:=fun _ _=>False }
def PF (X:Cx) (ifs:List Expr) (t:TT):Prop :=
 ∀ (pins:List (10:)) (s:Shared) (σ:St) (H:Hp) (Q:Bool→Hp→Prop),Inv X pins σ H s→t σ H Q →
  wpAny (6:) X.A (forIn ifs true fun c r=>if r=true then do let ok ← isTrue c X.env (eval c X.env);pure (ForInStep.yield ok) else pure (ForInStep.yield r)) (TP X pins σ Q) X.xe s
theorem ZB {X:Cx}:PF X [] (fun _ H Q=>Q true H):=by
 intro pins s σ H Q I h
 rw [List.forIn_nil]
 exact wpAny_pure ⟨H,I,h⟩
theorem UN {X:Cx} {c:Expr} {t:TT} (hc:PT X c t):PF X [c] t:=by
 intro pins s σ H Q I h
 rw [List.forIn_cons]
 refine wpAny_bind ?_
 rw [if_pos rfl]
 refine wpAny_bind (thn (hc pins s σ H Q I h) fun ok s1 q=>wpAny_pure ?_)
 dsimp only
 rw [List.forIn_nil]
 exact wpAny_pure q
structure OwnAt (X:Cx) (pins:List (10:)) (H:Hp) (s:Shared) (C:Addr):Prop where
 ns:∃ m,s.heap.Ns C m
 free:H C=none
 loc:C≠X.env.locals
 above:X.s₀.heap.objs.size≤C
 cells:∀ x c,X.env.cells.lookup x=some c→c≠C
 pins:∀ p ∈ X.pn ++ pins,p.1≠C
theorem OwnAt.go {X:Cx} {pins:List (10:)} {σ:St} {H:Hp} {s:Shared} {C:Addr} {h':Heap} (I:Inv X pins σ H s) (o:OwnAt X pins H s C) (hb:Heap.SameBut C s.heap h'):Inv X pins σ H { s with heap:=h' } :=
 I.turned (t':=s.toks) (fun b u hb' e=>(hb.2 b hb').trans e) o.free o.loc (.inr o.above) o.cells o.pins
def XY (n:Nat) (Pv:Nat→List V→Hp→Prop):Nat→Nat→Hp→Prop:=fun i m H=>m=n - i∧i≤n∧∃ ys,Pv i ys H
def W3 (n:Nat) (Pv:Nat→List V→Hp→Prop) (acc:Addr) (i m:Nat):VK:=fun y H5=>∃ ys,H5 acc=some (.lst ys)∧ys.length < sizeLine∧∃ m',m' < m∧XY n Pv (i + 1) m' (upd H5 acc (.lst (ys ++ [y])))
theorem QI {n:Nat} {Pv:Nat→List V→Hp→Prop} {acc:Addr} {i:Nat} {y:V} {H5:Hp} {ys:List V} (hi:i < n) (hacc:H5 acc=some (.lst ys)) (hl:ys.length < 5000) (hP:Pv (i + 1) (ys ++ [y]) (upd H5 acc (.lst (ys ++ [y])))):W3 n Pv acc i (n - i) y H5 :=
 ⟨ys,hacc,Nat.lt_trans hl (18:),n - (i + 1),by lia,rfl,hi,_,hP⟩
theorem ZC {n:Nat} {Pv:Nat→List V→Hp→Prop} {i:Nat} {H:Hp} {ys:List V} (hi:i < n) (hP:Pv (i + 1) ys H):∃ m',m' < n - i∧XY n Pv (i + 1) m' H:=⟨n - (i + 1),by lia,rfl,hi,ys,hP⟩
end L2
namespace L2
open PySem PySem.Spec PyProof.Rows
end L2
namespace L2
open PySem PySem.Spec PyProof.Rows
section
variable {X:Cx}
theorem Zm:Ym X (.builtin "isinstance") (fun xs H Q=>∃ a ys T b,xs=[.ref a,.ty T]∧SqT X.K H a ys∧PySem.W.kitOne X.K (.type "tuple") (.type T)=some b∧Q (.bl b) H):=by
 intro pins s σ H xs us Q I r h
 obtain ⟨a,ys,T,b,rfl,ht,e,q⟩:=h
 obtain ⟨u,c,rfl,rx,rc⟩:=MQ r
 cases (show c=Value.type T from rc)
 cases (show u=Value.ref a from rx)
 obtain ⟨its,r1,p,_⟩:=I.tuple ht
 obtain ⟨o,h1,h2,_⟩:=p
 exact PySem.W.kia_one PySem.W.kitx_tuple I.kIn ⟨o,h1,h2⟩ e (44:) fun tk=>⟨.bl b,H,I.tok tk,rfl,q⟩
end
theorem Uo {K:PySem.W.Frag} {H:Hp}:∀ p:List Int,RdAll K H (p.map V.int) (p.map PyData.int)
 | []=>.nil
 | i :: r=>.cons (.int i) (Uo r)
theorem YJ:∀ p:List Int,PyData.canLayAll0 (p.map PyData.int)=true
 | []=>by simp [PyData.canLayAll0]
 | i :: r=>by simp only [List.map_cons,PyData.canLayAll0,PyData.canLay0,YJ r,Bool.and_self]
end L2
namespace L2
open PySem PySem.Spec PyProof.Rows
section
variable {X:Cx} {pins:List (10:)} {σ:St} {H:Hp} {s:Shared} {h':Heap}
theorem Inv.turnedL {ch:List Addr} {t':Nat} (I:Inv X pins σ H s) (k:∀ b o,b ∉ ch→s.heap.get? b=some o→h'.get? b=some o) (hf:∀ b ∈ ch,Yz X pins H b):Inv X pins σ H { s with heap:=h',toks:=t' }:=by
 have nch:∀ b u,H b=some u→b ∉ ch:=fun b u e z=>by rw [(hf b z).1] at e;cases e
 refine I.step (g':=s.gens) (d':=s.drawn) (ch:=ch) (fun b hb=>?_) (fun b o _ _ hc e _=>k b o hc e) (fun b o _ _ hc e _=>⟨o.slots,k b o hc e⟩) (fun _ _ _ _ n=>n)
  (fun b o hc e=>⟨o,k b o hc e⟩) (fun _ _ e=>e) (fun _ _ _ e=>e) (fun b ps e=>⟨#[],by rw [e];simp⟩) (fun m hm=>?_) (fun b u e=>?_) I.bare
 ·obtain ⟨f0,f1,f2,f3,f4,f5⟩:=hf b hb
  exact ⟨f3,f1,f4,f5⟩
 ·obtain ⟨o,es,ep,ho,r⟩:=hm
  exact ⟨o,es,ep,k _ o (fun z=>(hf _ z).2.1 rfl) ho,r⟩
 ·refine (I.hok b u e).stay (fun c v hc q=>k c v ?_ q) (fun _ q=>q) fun _ _ q=>q
  rcases hc with z | z
  ·rw [z];exact nch b u e
  ·exact nch c _ z
theorem Inv.turnedNew {ch:List Addr} {t':Nat} {a:Addr} {o:HO} (I:Inv X pins σ H s) (k:∀ b o,b ∉ ch→s.heap.get? b=some o→h'.get? b=some o) (hf:∀ b ∈ ch,Yz X pins H b)
 (hp:s.heap.objs.size≤a) (new:ObjOk X.prog X.w (upd H a o) h' a o):Inv X pins σ (upd H a o) { s with heap:=h',toks:=t' }:=by
 have hn:H a=none:=I.hok.fresh hp
 have nch:∀ b u,H b=some u→b ∉ ch:=fun b u e z=>by rw [(hf b z).1] at e;cases e
 have lt:∀ b u,s.heap.get? b=some u→b≠a:=fun b u e=>Nat.ne_of_lt (Nat.lt_of_lt_of_le (Heap.lt_size e) hp)
 refine I.step (g':=s.gens) (d':=s.drawn) (ch:=ch) (fun b hb=>?_) (fun b o _ _ hc e _=>k b o hc e) (fun b o _ _ hc e _=>⟨o.slots,k b o hc e⟩) (fun b u _ e n=>by rw [Qj (lt b u e)];exact n)
  (fun b o hc e=>⟨o,k b o hc e⟩) (fun b xs e=>by rw [Qj (Qk e hn)];exact e) (fun b u xs e=>by rw [Qj (Qk e hn)];exact e) (fun b ps e=>⟨#[],by rw [Qj (Qk e hn),e];simp⟩) (fun m hm=>?_) (fun b u e=>?_) I.bare
 ·obtain ⟨f0,f1,f2,f3,f4,f5⟩:=hf b hb
  exact ⟨f3,f1,f4,f5⟩
 ·obtain ⟨o,es,ep,ho,r⟩:=hm
  exact ⟨o,es,ep,k _ o (fun z=>(hf _ z).2.1 rfl) ho,r⟩
 ·by_cases hb:b=a
  ·subst hb
   rw [Qc] at e;cases e
   exact new
  ·rw [Qj hb] at e
   refine (I.hok b u e).stay (fun c v hc q=>k c v ?_ q) (fun c q=>by rw [Qj (Qk q hn)];exact q) fun c xs q=>by rw [Qj (Qk q hn)];exact q
   rcases hc with z | z
   ·rw [z];exact nch b u e
   ·exact nch c _ z
end
def Itz (K:PySem.W.Frag) (a b:Addr) (xs ys:List V):It :=
 ⟨fun i H=>SqL K H a xs∧SqL K H b ys∧i < xs.length∧i < ys.length,fun i H x H'=>∃ p u v,H p=none∧x=.ref p∧H'=upd H p (.tup [u,v])∧xs[i]?=some u∧ys[i]?=some v,fun i H=>SqL K H a xs∧SqL K H b ys∧(xs.length≤i∨ys.length≤i)⟩
theorem GH {P:Program} {w:World} {K:PySem.W.Frag} {elts:List Expr} {k1:Nat} {pos:Pos} (a b z:Addr) (xs ys:List V) (TI TO i1 i2:Addr) (Ap:ZipApart z TI TO i1 i2 a b) :
 Turn P w K (.Tuple elts k1 pos) (Itz K a b xs ys) [z,TI,TO,i1,i2] z (fun i h=>IsZip h z TI TO .none∧IsPair h TI (.ref i1) (.ref i2)∧(∃ u v,IsPair h TO u v)∧h.IsListIter i1 a i∧h.IsListIter i2 b i) where
 mem:=by simp
 obj:=fun i h st c hc=>by
  obtain ⟨hz,hTI,⟨u,v,hTO⟩,h1,h2⟩:=st
  simp only [List.mem_cons,List.mem_nil_iff,or_false] at hc
  rcases hc with rfl | rfl | rfl | rfl | rfl
  ·exact ⟨_,hz,fun v z=>by have z':Data.fields _=Data.cell v:=z;cases z'⟩
  ·exact ⟨_,hTI,fun v z=>by have z':Data.seq _ _=Data.cell v:=z;cases z'⟩
  ·exact ⟨_,hTO,fun v z=>by have z':Data.seq _ _=Data.cell v:=z;cases z'⟩
  ·obtain ⟨o,e,c,d⟩:=h1;exact (48:)
  ·obtain ⟨o,e,c,d⟩:=h2;exact (48:)
 keep:=fun i h h' st k=>by
  obtain ⟨hz,hTI,⟨u,v,hTO⟩,h1,h2⟩:=st
  exact ⟨k z (27:) _ hz,k TI (27:) _ hTI,⟨u,v,k TO (27:) _ hTO⟩,h1.at fun o e=>k i1 (27:) o e,h2.at fun o e=>k i2 (27:) o e⟩
 item:=by
  intro X hP hw hK hc i pins s σ H E I hf st hg
  subst hP hw hK
  obtain ⟨hz,hTI,⟨u0,v0,hTO⟩,h1,h2⟩:=st
  obtain ⟨qa,qb,lx,ly⟩:=hg
  obtain ⟨its,rv,p,_⟩:=I.list qa
  obtain ⟨its2,rv2,p2,_⟩:=I.list qb
  have ex:xs[i]?=some xs[i]:=List.getElem?_eq_getElem lx
  have ey:ys[i]?=some ys[i]:=List.getElem?_eq_getElem ly
  obtain ⟨u,hu,ru⟩:=rv.get ex
  obtain ⟨v,hv,rv'⟩:=rv2.get ey
  refine wpAny_pyNext_zip_item Ap hz hTI hTO h1 h2 p.isList p2.isList (x:=u) (y:=v) (by simpa using hu) (by simpa using hv) fun h' a1 a2 a3 a4 a5 a6 hk=>?_
  refine ⟨.ref s.heap.objs.size,rfl,wpAny_letOwnedTupleGo_zip (s:={ s with heap:=h' }) a1 fun h'' hz' hs'=>?_⟩
  have lt:∀ {c o},s.heap.get? c=some o→c≠s.heap.objs.size:=fun e=>Nat.ne_of_lt (Heap.lt_size e)
  have e5:IsPair h'' s.heap.objs.size u v:=(hs'.2 _ (Ne.symm (lt hz))).trans a5
  have hch:∀ c ∈ [z,TO,i1,i2],Yz X pins H c:=fun c hc=>hf c (by
   simp only [List.mem_cons,List.mem_nil_iff,or_false] at hc ⊢
   rcases hc with rfl | rfl | rfl | rfl <;> simp)
  have I2:Inv X pins σ (upd H s.heap.objs.size (.tup [xs[i],ys[i]])) { s with heap:=h'',toks:=s.toks }:=by
   refine I.turnedNew (ch:=[z,TO,i1,i2]) (fun c o hc e=>?_) hch (9:) ⟨by show 2≤sizeLine;decide,[u,v],.cons ru (.cons rv' .nil),⟨_,e5,rfl,_,rfl⟩⟩
   simp only [List.mem_cons,List.mem_nil_iff,or_false,not_or] at hc
   exact (hs'.2 c hc.1).trans (hk c o hc.1 hc.2.1 hc.2.2.1 hc.2.2.2 e)
  have hfr:∀ c ∈ [z,TI,TO,i1,i2],upd H s.heap.objs.size (.tup [xs[i],ys[i]]) c=none:=fun c hc=>by
   have hc2:=hf c hc
   have:c≠s.heap.objs.size:=by
    simp only [List.mem_cons,List.mem_nil_iff,or_false] at hc
    rcases hc with rfl | rfl | rfl | rfl | rfl
    ·exact lt hz
    ·exact lt hTI
    ·exact lt hTO
    ·obtain ⟨o,e,_⟩:=h1;exact lt e
    ·obtain ⟨o,e,_⟩:=h2;exact lt e
   rw [Qj this];exact hc2.1
  exact ⟨.ref s.heap.objs.size,_,I2,rfl,⟨s.heap.objs.size,_,_,I.fresh,rfl,rfl,ex,ey⟩,⟨hz',hs'.extBut _ _ Ap.TIz (hk _ _ Ap.TIz Ap.TITO Ap.TIi1 Ap.TIi2 hTI),⟨_,_,hs'.extBut _ _ Ap.TOz a2⟩,a3.extBut hs'.extBut Ap.i1z,a4.extBut hs'.extBut Ap.i2z⟩,hfr⟩
 done:=by
  intro X hP hw hK hc i pins s σ H E I hf st hg
  subst hP hw hK
  obtain ⟨hz,hTI,⟨u0,v0,hTO⟩,h1,h2⟩:=st
  obtain ⟨qa,qb,hl⟩:=hg
  obtain ⟨its,rv,p,_⟩:=I.list qa
  obtain ⟨its2,rv2,p2,_⟩:=I.list qb
  have l1:=rv.length
  have l2:=rv2.length
  have hch:∀ c ∈ [z,TO,i1,i2],Yz X pins H c:=fun c hc=>hf c (by
   simp only [List.mem_cons,List.mem_nil_iff,or_false] at hc ⊢
   rcases hc with rfl | rfl | rfl | rfl <;> simp)
  refine wpAny_pyNext_zip_end (I.ok.hd hc) Ap hz hTI hTO h1 h2 p.isList p2.isList ?_ fun h' hk=>⟨rfl,I.turnedL (t':=s.toks) (ch:=[z,TO,i1,i2]) (fun c o hc e=>?_) hch⟩
  ·rcases hl with q | q
   ·exact .inl (by simp;lia)
   ·exact .inr (by simp;lia)
  ·simp only [List.mem_cons,List.mem_nil_iff,or_false,not_or] at hc
   exact hk c o hc.1 hc.2.1 hc.2.2.1 hc.2.2.2 e
 self:=fun _ _ _ _ _ st h=>wpAny_pyIter_zip st.1 h
theorem nne {x y:Nat} (h:x < y∨y < x):x≠y:=by lia
section
variable {X:Cx} {elts:List Expr} {k1:Nat} {tpos:Pos}
def OZ (K:PySem.W.Frag) (ta:TA):TI:=fun σ H R=>ta σ H fun vs H1=>∃ a b xs ys,vs=[.ref a,.ref b]∧SqL K H1 a xs∧SqL K H1 b ys∧R (Itz K a b xs ys) H1
theorem WI {e1 e2:Expr} {ta:TA} {p pos:Pos} (hg:Gl X "zip") (hm:X.mg "zip" = none) (ha:PA X [e1,e2] ta) (hs:starEach [e1,e2] X.env=[(false,eval e1 X.env),(false,eval e2 X.env)]:=by rfl) (hs2:starEach [e2] X.env=[(false,eval e2 X.env)]:=by rfl) :
 PI X (.Tuple elts k1 tpos) (.Call (.Name "zip" p) [e1,e2] [] pos) (OZ X.K ta):=by
 intro pins s σ H R I h
 refine Call_ (ZM I hg hm PyProof.Rows.boot_zip (PyProof.Rows.callWith_type1 (30:) (by rw [hs,hs2]) (by rw [hs2];rfl)))
 obtain ⟨a,b,xs,ys,e,qa,qb,q⟩:=q1
 subst e
 obtain ⟨u1,u2,e3,r3,r4⟩:=r1.two
 subst e3
 cases (show u1=Value.ref a from r3)
 cases (show u2=Value.ref b from r4)
 obtain ⟨its,rv,pl,_⟩:=I1.list qa
 obtain ⟨its2,rv2,pl2,_⟩:=I1.list qb
 have la:@LT.lt Nat _ a s1.heap.objs.size:=by obtain ⟨o,n,e,_⟩:=pl;exact Heap.lt_size e
 have lb:@LT.lt Nat _ b s1.heap.objs.size:=by obtain ⟨o,n,e,_⟩:=pl2;exact Heap.lt_size e
 refine call_zip_2 pl.isList pl2.isList fun h' hz hTI hTO h1 h2 hsz hk=>?_
 refine wpAny_pyIter_zip hz ?_
 have I2:Inv X pins σ H1 { s1 with heap:=h' }:=I1.kept (t':=s1.toks) hk
 refine ⟨s1.heap.objs.size + 4,[s1.heap.objs.size + 4,s1.heap.objs.size + 2,s1.heap.objs.size + 3,s1.heap.objs.size,s1.heap.objs.size + 1],_,_,H1,rfl,I2,GH a b (s1.heap.objs.size + 4) xs ys (s1.heap.objs.size + 2) (s1.heap.objs.size + 3) s1.heap.objs.size (s1.heap.objs.size + 1) ?_,⟨hz,hTI,⟨_,_,hTO⟩,h1,h2⟩,fun c hc=>?_,q⟩
 ·constructor <;> (refine nne ?_;lia)
 ·have hle:@LE.le Nat _ s1.heap.objs.size c:=by
   simp only [List.mem_cons,List.mem_nil_iff,or_false] at hc
   rcases hc with rfl | rfl | rfl | rfl | rfl <;> lia
  exact I1.fpOk hle (I1.hok.fresh hle)
theorem JJ {K:PySem.W.Frag} {a b:Addr} {xs ys:List V} {g:TG} {tb:TS} {D:Ends} {σ:St} {H:Hp} (hlen:xs.length=ys.length) (Pv:Nat→St→Hp→Prop) (h0:Pv 0 σ H) (hl:∀ i σ H,i≤xs.length→Pv i σ H→SqL K H a xs∧SqL K H b ys)
 (hs:∀ i u v p σ H,xs[i]?=some u→ys[i]?=some v→H p=none→Pv i σ H→g (.ref p) σ (upd H p (.tup [u,v])) fun σ2 H2=>tb { D with nx:=Pv (i + 1),ct:=Pv (i + 1),bk:=D.nx } σ2 H2) (hd:∀ σ H,Pv xs.length σ H→D.nx σ H) :
 ∃ W:Nat→Nat→St→Hp→Prop,(∃ m,W 0 m σ H)∧∀ i m σ H,W i m σ H →
  ((Itz K a b xs ys).stop i H∧D.nx σ H)∨((Itz K a b xs ys).go i H∧∃ N:St→Hp→Prop,(17:)∧∀ x H',(Itz K a b xs ys).yld i H x H'→g x σ H' fun σ2 H2=>tb { D with nx:=N,ct:=N,bk:=D.nx } σ2 H2):=by
 refine (51:)
 rintro i m σ H ⟨rfl,hi,p⟩
 obtain ⟨qa,qb⟩:=hl i σ H hi p
 by_cases h:i < xs.length
 ·refine .inr ⟨⟨qa,qb,h,by lia⟩,Pv (i + 1),fun σ' H' p'=>⟨xs.length - (i + 1),by lia,rfl,h,p'⟩,?_⟩
  rintro x H' ⟨p',u,v,hp,rfl,rfl,hu,hv⟩
  exact hs i u v p' σ H hu hv hp p
 ·have e:i=xs.length:=by lia
  subst e
  exact .inl ⟨⟨qa,qb,.inl (9:)⟩,hd σ H p⟩
end
end L2
namespace L2
open PySem PySem.Spec PyProof.Rows
section
variable {X:Cx}
end
section
variable {prog:Program} {w:World} {A:Around} {R:Result→Shared→Prop} {I:Addr} {fp wr:List Addr} {n:Nat} {P:Nat→Value→Prop} {St:Nat→Heap→Prop}
end
section
variable {prog:Program} {w:World} {A:Around} {E:Value→Shared→Prop} {s:Shared}
end
end L2
namespace L2
open PySem PySem.Spec PyProof.Rows
section
variable {X:Cx} {x:Str} {p pos:Pos} {e:Expr} {es:List Expr} {kws:List Keyword} {t tk:TA} {id:String} {ks:List Str} {r:List V→List V→Hp→VK→Prop}
end
end L2
namespace L2
open PySem PySem.Spec PyProof.Rows
structure CompG (X:Cx) (xs caps:List Str) (cap:List Nat) (scope:Scope) (cl:List (Str × Addr)):Prop where
 clos:closureFor scope X.env=pure cl
 cell:∀ y ∈ scope.names,y.2≠.cell
 kind:scope.kind=.function
 names:∀ y ∈ scope.names,y.2=.local→scope.names.lookup y.1=some .local
 lx:∀ x ∈ xs,scope.names.lookup x=some .local
 nd:(xs ++ caps).Nodup
 from_:∀ y c,cl.lookup y=some c→X.env.cells.lookup y=some c
 has:∀ y,((relabel scope X.env).names.lookup y=some .cell∨(relabel scope X.env).names.lookup y=some .free)→∃ c,cl.lookup y=some c
 len:cap.length=caps.length
 cps:∀ (i:Nat) (y:Str),caps[i]?=some y→∃ j,cap[i]?=some j∧X.N[j]?=some y∧X.env.scope.names.lookup y=some .cell∧(relabel scope X.env).names.lookup y=some .cell
def JR (cap:List Nat) (σ:St):St:=cap.map fun j=>(σ[j]?).getD none
def JT (n:Nat) (wi:TI) (cap:List Nat) (g:TG) (tt:TT) (te:TE):TE:=fun σ H Q=>wi σ H fun J H1=>∀ acc,H1 acc=none→∃ W:Nat→Nat→Hp→Prop,(∃ m,W 0 m (upd H1 acc (.lst [])))∧∀ i m H2,W i m H2 →
 (J.stop i H2∧Q (.ref acc) H2)∨(J.go i H2∧∀ x H3,J.yld i H2 x H3→∀ as:St,as.length=n→g x (as ++ JR cap σ) H3 fun σ4 H4=>(∃ bs:St,bs.length=n∧σ4=bs ++ JR cap σ)∧tt σ4 H4 fun ok H5=>if ok=true then
  te σ4 H5 (41:)
  else ∃ m',m' < m∧W (i + 1) m' H5)
theorem XO {X:Cx} {elt iter tg:Expr} {xs:List Str} {ifs:List Expr} {scope:Scope} {pos pos':Pos} {wi:TI} {g:TG} {tt:TT} {te:TE} {cl:List (Str × Addr)} {caps:List Str} {cap:List Nat}
 (O:CompG X xs caps cap scope cl) (hc:X.calm=true) (hi:PI X tg iter wi) (hg:∀ C fp s₀ H₀,PG (24:) tg g)
 (ht:∀ C fp s₀ H₀,PF (24:) ifs tt)
 (hs:∀ x,foldedSetIterable iter X.env x=pure x) {pins:List (10:)} {s:Shared} {σ:St} {H:Hp} {Q:VK} {use:Option (Value→Sem Unit)} {QQ:Value→Shared→Prop} (I:Inv X pins σ H s)
 (h:JT xs.length wi cap g tt te σ H Q)
 (hfin:∀ D C H' s',Inv X pins σ H' s'→OwnAt X pins H' s' C→Q (.ref D) H'→compPost (6:) X.A X.xe use QQ (.ref D) C (.ok .next) s')
 (hw:∀ {fp:List Addr} {s3:Shared} {H3:Hp} {D:Value} {p9:List (10:)} {s9:Shared} {σ9:St} {H9:Hp} {Q9:VK},Inv X pins σ H3 s3→(∀ b ∈ fp,(b ∈ X.ex∨X.s₀.heap.objs.size≤b)∧b≠X.env.locals∧(∀ x c,X.env.cells.lookup x=some c→c≠b)∧∀ p ∈ X.pn ++ pins,p.1≠b)→Inv (14:) p9 σ9 H9 s9→te σ9 H9 Q9 →
  wpAny (6:) X.A (eval elt (compEnvC scope cl s3.heap.objs.size X.env)) (EP (14:) p9 σ9 Q9) (notedBy (6:) X.A (compEnvC scope cl s3.heap.objs.size X.env) (fun x s'=>compPost (6:) X.A X.xe use QQ D s3.heap.objs.size (.error x) s')) s9) :
 wpAny (6:) X.A (comprehension (33:) scope X.env pos' (newList []) false (eval iter X.env) use) QQ X.xe s:=by
 refine wpAny_comprehension_free rfl hs O.clos O.kind O.names (thn (hi pins s σ H _ I h) fun v s1 h1=>thn h1 fun itv s2 h2=>?_)
 obtain ⟨it,fp,tn,J,H1,e,I2,T,t0,f2,hR⟩:=h2
 subst e
 refine wpAny_newObj_type (wpAny_newFunctionEnv O.cell (by intro y hy;simp at hy) (fun h₁ hns hsb=>?_) O.kind)
 have hacc:H1 s2.heap.objs.size=none:=I2.fresh
 obtain ⟨W,⟨m0,w0⟩,turn⟩:=hR s2.heap.objs.size hacc
 have I3:Inv X pins σ (upd H1 s2.heap.objs.size (.lst [])) { s2 with heap:=s2.heap.push { cls:=.type "list", data:=.seq ([]:List Value).toArray } }:=I2.lnew (t':=s2.toks) (ys:=[]) (its:=[]) .nil (Nat.zero_le _)
 generalize hs3:({ s2 with heap:=s2.heap.push { cls:=.type "list", data:=.seq ([]:List Value).toArray } }:Shared)=s3 at hns hsb I3 ⊢
 generalize hD:s2.heap.objs.size=D at I3 w0 turn hacc ⊢
 generalize hH3:upd H1 D (.lst [])=H3 at I3 w0
 have keep3:∀ b o,s3.heap.get? b=some o→h₁.get? b=some o:=fun b o e=>(hsb.2 b (Nat.ne_of_lt (Heap.lt_size e))).trans (Heap.get?_push_of_some _ e)
 have hfp3:∀ b ∈ fp,H3 b=none:=fun b hb=>by
  rw [← hH3,Qj]
  ·exact (f2 b hb).1
  ·intro z
   obtain ⟨o,e,_⟩:=T.obj _ _ t0 b hb
   exact absurd (Heap.lt_size e) (by rw [z,hD];exact Nat.lt_irrefl _)
 have hCfresh:H3 s3.heap.objs.size=none:=I3.fresh
 have hCfp:∀ b ∈ fp,b≠s3.heap.objs.size:=fun b hb z=>by
  obtain ⟨o,e,_⟩:=T.obj _ _ t0 b hb
  have h2:s3.heap.objs.size=s2.heap.objs.size + 1:=by rw [← hs3];exact Heap.size_push ..
  exact absurd (Heap.lt_size e) (by rw [z,h2];exact Nat.not_lt.mpr (Nat.le_succ _))
 have t3:tn 0 h₁:=T.keep _ _ _ t0 fun b hb o e=>keep3 b o (by rw [← hs3];exact Heap.get?_push_of_some _ e)
 have ok':(14:).Ok:=by
  refine ⟨I3.ok.mod,O.kind,I3.ok.glob,I3.ok.blt,Nat.le_refl _,fun y z c e1 e2=>I3.ok.inj y z c (O.from_ y c e1) (O.from_ z c e2),fun y hy=>O.has y hy,fun y c z _=>(nomatch z),I3.ok.hd,I3.ok.frames,.inl rfl,fun b hb=>⟨hCfp b hb,fun y c e=>?_⟩,I3.bs,Nat.le_trans I3.ok.bsz I3.sz,fun b o e hb=>?_,fun b hb z=>?_,I3.stack,I3.stkFree⟩
  ·exact (f2 b hb).2.2.2.2.1 y c (O.from_ y c e)
  ·rcases (f2 b hb).2.2.2.1 with q | q
   ·exact I3.ok.noex b o e q
   ·exact absurd (Nat.lt_of_lt_of_le (Heap.lt_size e) (Nat.le_trans I3.ok.bsz q)) (Nat.lt_irrefl _)
  ·rcases List.mem_cons.mp (I3.stkSub b z) with q | q
   ·exact (f2 b hb).2.1 q
   ·exact (f2 b hb).2.2.1 q
 have I4:Inv (14:) [] (List.replicate xs.length none ++ JR cap σ) H3 { s3 with heap:=h₁,toks:=s3.toks + ([]:List (Str × Value)).length }:=by
  obtain ⟨m,hn,hl⟩:=id I3.loc
  refine ⟨ok',rfl,I3.bare,Un.kept keep3,⟨_,hns,fun i y v e1 e2 e3=>?_⟩,fun y c e=>?_,hCfresh,fun y c e=>I3.freeC y c (O.from_ y c e),fun p hp=>(nomatch hp),I3.hok.kept keep3,?_⟩
  ·by_cases hix:i < xs.length
   ·rw [List.getElem?_append_left (by rw [List.length_replicate];exact hix),List.getElem?_replicate,if_pos hix] at e2
    cases e2
   ·have e1':caps[i - xs.length]?=some y:=by
     have e1'':(xs ++ caps)[i]?=some y:=e1
     rwa [List.getElem?_append_right (11:)] at e1''
    obtain ⟨j,hj,hN,hk,hk'⟩:=O.cps _ y e1'
    have e2':(σ[j]?).getD none=some v:=by
     rw [List.getElem?_append_right (by rw [List.length_replicate];lia),List.length_replicate] at e2
     unfold JR at e2
     simpa [hj] using e2
    have e2'':σ[j]?=some (some v):=by
     cases q:σ[j]? with
     | none=>rw [q] at e2';cases e2'
     | some a=>rw [q] at e2';exact congrArg some e2'
    obtain ⟨u,r,l⟩:=hl j y v hN e2'' (.inr (.inl hk))
    refine ⟨u,r,?_⟩
    rcases l with ⟨k,_⟩ | ⟨k,c,e,z⟩
    ·have k':X.env.scope.names.lookup y=some .local:=k
     rw [hk] at k';cases k'
    ·obtain ⟨c',hc'⟩:=O.has y (.inl hk')
     have:c'=c:=Option.some.inj ((O.from_ y c' hc').symm.trans e)
     subst this
     refine .inr ⟨.inl hk',c',hc',?_⟩
     obtain ⟨o,ho,hd⟩:=z
     exact ⟨o,keep3 _ _ ho,hd⟩
  ·obtain ⟨v,o,ho,hd⟩:=I3.cell y c (O.from_ y c e)
   exact ⟨v,o,keep3 _ _ ho,hd⟩
  ·show (List.replicate xs.length none ++ JR cap σ).length=(xs ++ caps).length
   simp [JR,O.len]
 have fin:∀ (H':Hp) (σ':St) (s':Shared),Inv (14:) [] σ' H' s'→Q (.ref D) H' →
  compPost (6:) X.A X.xe use QQ (.ref D) s3.heap.objs.size (.ok .next) s':=fun H' σ' s' I' q=>by
  obtain ⟨m,hn,_⟩:=id I'.loc
  have hU:Un (frs X.stack) fp H3 H' s3.heap s'.heap:=I'.base
  have hok2:HOk X.prog X.w H' s'.heap:=I'.hok
  have os':s'.os=s3.os:=I'.os
  have I6:Inv X pins σ H' s':=I3.call' (ch:=fp) os' hU hok2 I'.bare (fun b hb=>⟨(f2 b hb).2.2.2.1,(f2 b hb).2.1,(f2 b hb).2.2.2.2⟩)
  refine hfin D _ H' s' I6 ⟨⟨m,hn⟩,I'.free,Nat.ne_of_gt I3.lt,I3.sz,fun y c e z=>?_,fun p hp z=>?_⟩ q
  ·obtain ⟨v,hv⟩:=I3.cell y c e
   exact absurd hv.lt (by rw [z];exact Nat.lt_irrefl _)
  ·exact absurd (Heap.lt_size (I3.pin p hp).1) (by rw [z];exact Nat.lt_irrefl _)
 have stat:∀ {H':Hp},(∀ b ∈ fp,H' b=none)→∀ b ∈ fp,Yz (14:) [] H' b:=fun hn b hb =>
  ⟨hn b hb,hCfp b hb,ok'.exfs b hb,.inl hb,fun y c e=>(f2 b hb).2.2.2.2.1 y c (O.from_ y c e),fun p hp=>(nomatch hp)⟩
 have loop:codeAny (6:) X.A (.compLoop (33:) 0 (.ref it) (.ref D) (compEnvC scope cl s3.heap.objs.size X.env))
  (compPost (6:) X.A X.xe use QQ (.ref D) s3.heap.objs.size) { s3 with heap:=h₁,toks:=s3.toks + ([]:List (Str × Value)).length }:=by
  refine codeAny_loop rfl (fun n s'=>∃ i as H',as.length=xs.length∧Inv (14:) [] (as ++ JR cap σ) H' s'∧tn i s'.heap∧(∀ b ∈ fp,H' b=none)∧W i n H') ?_ m0 ⟨0,_,H3,List.length_replicate,I4,t3,hfp3,w0⟩
  rintro n s5 ⟨i,as,H5,has,I5,st5,fr5,w5⟩
  show wpAny _ _ ((compTurn (33:) 0 (.ref it) (.ref D) (compEnvC scope cl s3.heap.objs.size X.env)).onRaise (fun x=>do noteFrame x (compEnvC scope cl s3.heap.objs.size X.env);theTreesLotGoes x)) _ _ s5
  refine wpAny_noted ?_
  rw [compTurn_list]
  refine wpAny_bind (wpAny_standAt (wpAny_bind ?_))
  have bad:∀ {M:Model} {A:Around} {α:Type} {t:Sem α} {P:α→Shared→Prop} {E':Value→Shared→Prop} {s':Shared},wpAny M A t P (fun _ _=>False) s'→wpAny M A t P E' s':=fun h=>wpAny_mono h (fun _ _ q=>q) fun _ _ z=>z.elim
  rcases turn i n H5 w5 with ⟨stop,qn⟩ | ⟨go,step⟩
  ·refine bad (thn (T.done (14:) rfl rfl rfl hc i [] s5 _ H5 (fun _ _=>False) I5 (stat fr5) st5 stop) fun r s6 ⟨hr,I6⟩=>?_)
   subst hr
   exact wpAny_pure (fin H5 _ s6 I6 qn)
  ·refine bad (thn (T.item (14:) rfl rfl rfl hc i [] s5 _ H5 (fun _ _=>False) I5 (stat fr5) st5 go) fun r s6 ⟨u,hr,h6⟩=>?_)
   subst hr
   refine wpAny_bind (bad (thn h6 fun _ s7 ⟨y,H7,I7,r7,y7,st7,fr7⟩=>?_))
   have I7':=I7.pinned (stat fr7) (T.obj _ _ st7)
   have goal:=step y H7 y7 as has
   refine wpAny_bind (bad (thn (hg s3.heap.objs.size fp s3 H3 _ s7 _ H7 y _ _ I7' r7 goal) fun _ s8 ⟨σ8,H8,I8,⟨bs,hbs,eσ⟩,goal8⟩=>?_))
   subst eσ
   refine wpAny_bind (bad (thn (ht s3.heap.objs.size fp s3 H3 _ s8 _ H8 _ I8 goal8) fun okb s9 ⟨H9,I9,q9⟩=>?_))
   have again:∀ {H10:Hp} {s10:Shared} {m':Nat},Inv (14:) ([] ++ UH fp s7.heap) (bs ++ JR cap σ) H10 s10→m' < n→W (i + 1) m' H10 →
    ∃ m,m < n∧∃ i as H',as.length=xs.length∧Inv (14:) [] (as ++ JR cap σ) H' s10∧tn i s10.heap∧(∀ b ∈ fp,H' b=none)∧W i m H':=fun {H10 s10 m'} I10 hm w10=>by
    refine ⟨m',hm,i + 1,bs,H10,hbs,I10.unpinned,T.keep _ _ _ st7 fun b hb o e=>(I10.pin (b,o) (List.mem_append_right _ (List.mem_append_right _ (ZN hb e)))).1,fun b hb=>?_,w10⟩
    obtain ⟨o,e,d⟩:=T.obj _ _ st7 b hb
    exact (I10.pin (b,o) (List.mem_append_right _ (List.mem_append_right _ (ZN hb e)))).2.1
   cases okb with
   | false =>
    rw [if_neg Bool.false_ne_true] at q9
    obtain ⟨m',hm,w9⟩:=q9
    exact wpAny_pure ⟨rfl,again I9 hm w9⟩
   | true =>
    rw [if_pos rfl] at q9
    refine wpAny_bind (wpAny_bind (thn (hw I3 (fun b hb=>⟨(f2 b hb).2.2.2.1,(f2 b hb).2.1,(f2 b hb).2.2.2.2⟩) I9 q9) fun yv s10 ⟨yy,H10,I10,r10,ys,hys,hlen,m',hm,w10⟩=>?_))
    refine wpAny_bind (bad (thn (QR (X:=QP X (xs ++ caps) scope cl s3.heap.objs.size fp s3 H3) _ s10 _ H10 (.ref D) [yy] (.ref D) [yv] (fun _ H11=>W (i + 1) m' H11) I10 rfl (.cons r10 .nil) ⟨D,ys,yy,rfl,rfl,hys,hlen,w10⟩) fun _ s11 ⟨_,H11,I11,_,q11⟩=>?_))
    exact wpAny_pure (wpAny_pure ⟨rfl,again I11 hm q11⟩)
 refine codeAny_compStart_list loop (T.self _ 0 _ _ _ t3 loop)
theorem U0 {X:Cx} {elt iter tg:Expr} {xs:List Str} {ifs:List Expr} {scope:Scope} {pos pos':Pos} {wi:TI} {g:TG} {tt:TT} {te:TE} {cl:List (Str × Addr)} {caps:List Str} {cap:List Nat}
 (O:CompG X xs caps cap scope cl) (hc:X.calm=true) (hi:PI X tg iter wi) (hg:∀ C fp s₀ H₀,PG (24:) tg g)
 (ht:∀ C fp s₀ H₀,PF (24:) ifs tt) (he:∀ C fp s₀ H₀,PE (24:) elt te)
 (hs:∀ x,foldedSetIterable iter X.env x=pure x) {pins:List (10:)} {s:Shared} {σ:St} {H:Hp} {Q:VK} {use:Option (Value→Sem Unit)} {QQ:Value→Shared→Prop} (I:Inv X pins σ H s)
 (h:JT xs.length wi cap g tt te σ H Q)
 (hfin:∀ D C H' s',Inv X pins σ H' s'→OwnAt X pins H' s' C→Q (.ref D) H'→compPost (6:) X.A X.xe use QQ (.ref D) C (.ok .next) s') :
 wpAny (6:) X.A (comprehension (33:) scope X.env pos' (newList []) false (eval iter X.env) use) QQ X.xe s :=
 XO O hc hi hg ht hs I h hfin fun _ _ I9 q9=>wpAny_mono (he _ _ _ _ _ _ _ _ _ I9 q9) (fun _ _ q=>q) fun _ _ hx=>hx.elim
theorem Q6 {X:Cx} {elt iter tg:Expr} {xs:List Str} {ifs:List Expr} {scope:Scope} {pos:Pos} {wi:TI} {g:TG} {tt:TT} {te:TE} {cl:List (Str × Addr)} {caps:List Str} {cap:List Nat}
 (O:CompG X xs caps cap scope cl) (hc:X.calm=true) (hi:PI X tg iter wi) (hg:∀ C fp s₀ H₀,PG (24:) tg g)
 (ht:∀ C fp s₀ H₀,PF (24:) ifs tt) (he:∀ C fp s₀ H₀,PE (24:) elt te)
 (hs:∀ x,foldedSetIterable iter X.env x=pure x:=by intro _;rfl) :
 PE X (33:) (JT xs.length wi cap g tt te):=by
 intro pins s σ H Q I h
 rw [eval_ListComp]
 exact U0 (use:=none) O hc hi hg ht he hs I h fun D C H' s' I' o q=>by
  obtain ⟨m,hn⟩:=o.ns
  exact ⟨m,hn,fun h' hb=>⟨.ref D,H',o.go I' hb,rfl,q⟩⟩
theorem ZY {X:Cx} {elt iter tg:Expr} {xs:List Str} {y:Str} {py:Pos} {ifs:List Expr} {scope:Scope} {pos spos:Pos} {wi:TI} {g:TG} {tt:TT} {te:TE} {cl:List (Str × Addr)} {caps:List Str} {cap:List Nat} {i:Nat}
 (O:CompG X xs caps cap scope cl) (hc:X.calm=true) (hi:PI X tg iter wi) (hg:∀ C fp s₀ H₀,PG (24:) tg g)
 (ht:∀ C fp s₀ H₀,PF (24:) ifs tt) (he:∀ C fp s₀ H₀,PE (24:) elt te)
 (hN:X.N.Nodup) (hy:X.N[i]?=some y) (hl:X.env.scope.names.lookup y=some .local)
 (hsw:swapsWith (33:) (some (.Name y py)) spos.line X.env=pure true:=by rfl)
 (hs:∀ x,foldedSetIterable iter X.env x=pure x:=by intro _;rfl) :
 PS X (.Assign [.Name y py] (33:) spos) (M6 (JT xs.length wi cap g tt te) (Zt i)):=by
 intro pins s σ H D I h
 rw [exec_Assign_Name_used _ _ _ _ hsw]
 refine wpAny_bind (wpAny_standAt (wpAny_bind ?_))
 show wpAny _ X.A (do let _ ← comprehension (33:) scope X.env _ (newList []) false (eval iter X.env) (some (assign (.Name y py) X.env))) _ _ s
 refine wpAny_bind (thn (U0 (use:=some (assign (.Name y py) X.env)) (QQ:=fun _ s'=>SP X pins D .next s') O hc hi hg ht he hs I h fun Dd C H' s' I' o q=>?_) fun _ s' hq=>wpAny_pure (wpAny_pure hq))
 obtain ⟨m,hn⟩:=o.ns
 show wpAny _ X.A (assign (.Name y py) X.env (.ref Dd)) _ _ s'
 refine wpAny_assign_Name (JA (v:=.ref Dd) I' hN hy (.inl hl) rfl (fun s2 I2 sb=>?_) (.inr hl))
 obtain ⟨a,sb,ha⟩:=sb
 have hCa:C≠a:=by
  rcases ha with z | z
  ·rw [z];exact o.loc
  ·exact Ne.symm (o.cells y a z)
 have o2:OwnAt X pins H' s2 C:=⟨⟨m,hn.sameBut sb hCa⟩,o.free,o.loc,o.above,o.cells,o.pins⟩
 refine ⟨m,hn.sameBut sb hCa,fun h' hb=>?_⟩
 exact ⟨_,H',o2.go I2 hb,q⟩
section
variable {X:Cx} {xs caps:List Str} {cap:List Nat} {scope:Scope} {cl:List (Str × Addr)}
theorem Z4 {x:Str} {px:Pos} (O:CompG X [x] caps cap scope cl):∀ C fp s₀ H₀,PG (QP X ([x] ++ caps) scope cl C fp s₀ H₀) (.Name x px) (Zt 0):=fun C fp s₀ H₀ =>
 Qq (X:=QP X ([x] ++ caps) scope cl C fp s₀ H₀) (i:=0) O.nd rfl (.inl (lookup_relabel_local (O.lx x (27:)))) (.inr (lookup_relabel_local (O.lx x (27:))))
theorem W8 {x y:Str} {px py pos:Pos} {k:Nat} (O:CompG X [x,y] caps cap scope cl) (hc:X.calm=true):∀ C fp s₀ H₀,PG (QP X ([x,y] ++ caps) scope cl C fp s₀ H₀) (.Tuple [.Name x px,.Name y py] k pos) (L4 X.K 2 (UL (Zt 0) (UL (Zt 1) L7))):=fun C fp s₀ H₀ =>
 Zb (X:=QP X ([x,y] ++ caps) scope cl C fp s₀ H₀) hc (Qw (Qq (i:=0) O.nd rfl (.inl (lookup_relabel_local (O.lx x (27:)))) (.inr (lookup_relabel_local (O.lx x (27:)))))
  (Qw (Qq (i:=1) O.nd rfl (.inl (lookup_relabel_local (O.lx y (27:)))) (.inr (lookup_relabel_local (O.lx y (27:))))) QX))
end
theorem Je {k:NameKind} {y:Str}:∀ {l:List (Str × NameKind)},l.lookup y=some k→(y,k) ∈ l
 | [],h=>by simp at h
 | (n,j) :: r,h=>by
  cases hx:y == n with
  | true =>
   simp only [List.lookup_cons,hx] at h
   have:y=n:=by simpa using hx
   cases h
   rw [this];exact List.mem_cons_self
  | false =>
   simp only [List.lookup_cons,hx] at h
   exact List.mem_cons_of_mem _ (Je h)
theorem UU {y:Str} {c:Addr}:∀ {l:List (Str × Addr)},l.lookup y=some c→(y,c) ∈ l
 | [],h=>by simp at h
 | (n,j) :: r,h=>by
  cases hx:y == n with
  | true =>
   simp only [List.lookup_cons,hx] at h
   have:y=n:=by simpa using hx
   cases h
   rw [this];exact List.mem_cons_self
  | false =>
   simp only [List.lookup_cons,hx] at h
   exact List.mem_cons_of_mem _ (UU h)
theorem UC {y:Str} {c:Addr}:∀ {l:List (Str × Addr)},(y,c) ∈ l→∃ c',l.lookup y=some c'
 | [],h=>by cases h
 | (n,j) :: r,h=>by
  cases hx:y == n with
  | true=>exact ⟨j,by simp only [List.lookup_cons,hx]⟩
  | false =>
   simp only [List.lookup_cons,hx]
   rcases List.mem_cons.mp h with z | z
   ·have:y=n:=congrArg Prod.fst z
    rw [this] at hx
    simp at hx
   ·exact UC z
theorem YB {env:Env} {y:Str} (hf:env.scope.kind=.function) (hy:env.kindOf y=some .cell):∀ {names:List (Str × NameKind)},names.lookup y=some .free →
 (names.map fun (n,k)=>if (k == NameKind.free && env.scope.kind == .function && env.kindOf n == some .cell) then (n,NameKind.cell) else (n,k)).lookup y=some .cell
 | [],h=>by simp at h
 | (n,k) :: r,h=>by
  show List.lookup y ((if (k == NameKind.free && env.scope.kind == .function && env.kindOf n == some .cell)=true then (n,NameKind.cell) else (n,k)) :: _)=_
  cases hx:y == n with
  | true =>
   simp only [List.lookup_cons,hx] at h
   have e:y=n:=by simpa using hx
   cases h
   rw [← e,hf,hy]
   simp
  | false =>
   simp only [List.lookup_cons,hx] at h
   have ih:=YB hf hy h
   split
   ·simp only [List.lookup_cons,hx];exact ih
   ·simp only [List.lookup_cons,hx];exact ih
def UF (names:List (Str × NameKind)):List Str:=names.filterMap fun z=>if z.2 == NameKind.free then some z.1 else none
theorem Yv {env:Env}:∀ (names:List (Str × NameKind)) (caps:List Str) (cs:List Addr) (acc:List (Str × Addr)),UF names=caps→caps.map (fun y=>env.cells.lookup y)=cs.map some →
 (forIn names acc fun (x:Str × NameKind) (r:List (Str × Addr))=>(if (x.2 == NameKind.free)=true then do let a ← cellOf env x.1;pure (ForInStep.yield ((x.1,a) :: r)) else pure (ForInStep.yield r):Sem (ForInStep (List (Str × Addr)))))=(pure ((caps.zip cs).reverse ++ acc):Sem (List (Str × Addr)))
 | [],caps,cs,acc,h1,h2=>by
  have:caps=[]:=h1.symm
  subst this
  simp
 | (n,k) :: r,caps,cs,acc,h1,h2=>by
  rw [List.forIn_cons]
  by_cases hk:(k == NameKind.free)=true
  ·have e1:caps=n :: UF r:=by
    rw [← h1];unfold UF
    rw [List.filterMap_cons]
    simp only [hk,if_true]
   subst e1
   cases cs with
   | nil=>simp at h2
   | cons c cs =>
    simp only [List.map_cons,List.cons.injEq] at h2
    have hcell:cellOf env n=pure c:=by unfold cellOf;rw [h2.1]
    simp only [hk,if_true,hcell,pure_bind]
    rw [Yv r _ cs ((n,c) :: acc) rfl h2.2]
    simp
  ·have e1:caps=UF r:=by
    rw [← h1];unfold UF
    rw [List.filterMap_cons]
    simp only [hk]
    rfl
   subst e1
   simp only [hk,if_false,pure_bind]
   exact Yv r _ cs acc rfl h2
theorem Ue {env:Env} {scope:Scope} {caps:List Str} {cs:List Addr} (hf:UF scope.names=caps) (hc:caps.map (fun y=>env.cells.lookup y)=cs.map some):closureFor scope env=pure (caps.zip cs).reverse:=by
 have h:=Yv (env:=env) scope.names caps cs [] hf hc
 rw [List.append_nil] at h
 unfold closureFor
 simp only [bind_pure]
 exact h
theorem CompG.many {X:Cx} {xs caps:List Str} {cap:List Nat} {cs:List Addr} {scope:Scope} (hk:scope.kind=.function) (hf:X.env.scope.kind=.function) (hfr:UF scope.names=caps)
 (hnc:∀ z ∈ scope.names,z.2≠.cell) (hl:∀ y ∈ scope.names,y.2=.local→scope.names.lookup y.1=some .local) (hlx:∀ x ∈ xs,scope.names.lookup x=some .local) (hnd:(xs ++ caps).Nodup)
 (hfl:∀ y ∈ caps,scope.names.lookup y=some .free) (hce:caps.map (fun y=>X.env.scope.names.lookup y)=caps.map fun _=>some .cell) (hcs:caps.map (fun y=>X.env.cells.lookup y)=cs.map some)
 (hN:cap.map (fun j=>X.N[j]?)=caps.map some):CompG X xs caps cap scope (caps.zip cs).reverse:=by
 have hlen:caps.length=cs.length:=by simpa using congrArg List.length hcs
 have at_cs:∀ (i:Nat) (y:Str),caps[i]?=some y→∃ c,cs[i]?=some c∧X.env.cells.lookup y=some c:=fun i y h=>by
  have e:=congrArg (fun l=>l[i]?) hcs
  simp only [List.getElem?_map,h] at e
  cases q:cs[i]? with
  | none=>rw [q] at e;simp at e
  | some c=>rw [q] at e;exact ⟨c,rfl,by simpa using e⟩
 refine ⟨Ue hfr hcs,hnc,hk,hl,hlx,hnd,fun y c h=>?_,fun y h=>?_,?_,fun i y h=>?_⟩
 ·have hm:=UU h
  rw [List.mem_reverse] at hm
  obtain ⟨i,hi,e⟩:=List.getElem_of_mem hm
  have hi1:i < caps.length:=by rw [List.length_zip] at hi;lia
  have hi2:i < cs.length:=by rw [List.length_zip] at hi;lia
  rw [List.getElem_zip] at e
  obtain ⟨c',e1,e2⟩:=at_cs i caps[i] (List.getElem?_eq_getElem hi1)
  have e3:caps[i]=y:=congrArg Prod.fst e
  have e4:cs[i]=c:=congrArg Prod.snd e
  rw [List.getElem?_eq_getElem hi2,e4] at e1
  cases e1
  rw [← e3];exact e2
 ·have hm:y ∈ caps:=by
   have aux:∀ k:NameKind,(k=.cell∨k=.free)→(relabel scope X.env).names.lookup y=some k→y ∈ caps:=fun k hk h=>by
    have h1:=Je h
    obtain ⟨z,hz,e⟩:=List.mem_map.mp h1
    obtain ⟨n,kk⟩:=z
    have hfree:kk=.free∧n=y:=by
     dsimp only at e
     split at e
     ·rename_i q
      simp only [Bool.and_eq_true] at q
      exact ⟨by simpa using q.1.1,congrArg Prod.fst e⟩
     ·have e2:kk=k:=congrArg Prod.snd e
      refine ⟨?_,congrArg Prod.fst e⟩
      rcases hk with z | z
      ·exact absurd (e2.trans z) (hnc _ hz)
      ·exact e2.trans z
    rw [← hfr]
    refine List.mem_filterMap.mpr ⟨(n,kk),hz,?_⟩
    rw [hfree.1,hfree.2];rfl
   rcases h with h | h
   ·exact aux _ (.inl rfl) h
   ·exact aux _ (.inr rfl) h
  obtain ⟨i,hi,e⟩:=List.getElem_of_mem hm
  have hi2:i < cs.length:=by lia
  refine UC (c:=cs[i]) ?_
  rw [List.mem_reverse]
  have hiz:i < (caps.zip cs).length:=by rw [List.length_zip];lia
  have:=List.getElem_mem hiz
  rw [List.getElem_zip,e] at this
  exact this
 ·have:=congrArg List.length hN
  simpa using this
 ·have e:=congrArg (fun l=>l[i]?) hN
  simp only [List.getElem?_map,h] at e
  have hm:=List.mem_of_getElem? h
  cases q:cap[i]? with
  | none=>rw [q] at e;simp at e
  | some j =>
   rw [q] at e
   have hcell:X.env.scope.names.lookup y=some .cell:=by
    have e2:=congrArg (fun l=>l[i]?) hce
    simpa only [List.getElem?_map,h,Option.map_some,Option.some.injEq] using e2
   exact ⟨j,rfl,by simpa using e,hcell,YB hf hcell (hfl y hm)⟩
theorem Zs {J:It} {n N:Nat} {cs:St} {g:TG} {tt:TT} {te:TE} {H1:Hp} {acc:Addr} {Q:Hp→Prop} (Pv:Nat→List V→Hp→Prop) (h0:Pv 0 [] (upd H1 acc (.lst [])))
 (hstop:∀ ys H,Pv N ys H→J.stop N H∧Q H)
 (hstep:∀ i ys H,i < N→Pv i ys H→J.go i H∧∀ x H3,J.yld i H x H3→∀ as:St,as.length=n→g x (as ++ cs) H3 fun σ4 H4=>(∃ bs:St,bs.length=n∧σ4=bs ++ cs)∧tt σ4 H4 fun ok H5=>if ok=true then te σ4 H5 (W3 N Pv acc i (N - i)) else ∃ m',m' < N - i∧XY N Pv (i + 1) m' H5) :
 ∃ W:Nat→Nat→Hp→Prop,(∃ m,W 0 m (upd H1 acc (.lst [])))∧∀ i m H2,W i m H2 →
  (J.stop i H2∧Q H2)∨(J.go i H2∧∀ x H3,J.yld i H2 x H3→∀ as:St,as.length=n→g x (as ++ cs) H3 fun σ4 H4=>(∃ bs:St,bs.length=n∧σ4=bs ++ cs)∧tt σ4 H4 fun ok H5=>if ok=true then
   te σ4 H5 (41:)
   else ∃ m',m' < m∧W (i + 1) m' H5):=by
 refine ⟨XY N Pv,⟨N - 0,rfl,Nat.zero_le _,[],h0⟩,?_⟩
 rintro i m H2 ⟨rfl,hi,ys,p⟩
 by_cases h:i < N
 ·exact .inr (hstep i ys H2 h p)
 ·have e:i=N:=by lia
  subst e
  exact .inl (hstop ys H2 p)
abbrev MH (N:Nat) (Pv:Nat→List V→Hp→Prop) (acc:Addr) (i:Nat) (te:TE) (σ:St):Bool→Hp→Prop:=fun ok H5=>if ok=true then te σ H5 (W3 N Pv acc i (N - i)) else ∃ m',m' < N - i∧XY N Pv (i + 1) m' H5
abbrev Jc (J:It) (n:Nat) (cs:St) (g:TG) (tt:TT) (te:TE) (H1:Hp) (acc:Addr) (Q:Hp→Prop):Prop :=
 ∃ W:Nat→Nat→Hp→Prop,(∃ m,W 0 m (upd H1 acc (.lst [])))∧∀ i m H2,W i m H2 →
  (J.stop i H2∧Q H2)∨(J.go i H2∧∀ x H3,J.yld i H2 x H3→∀ as:St,as.length=n→g x (as ++ cs) H3 fun σ4 H4=>(∃ bs:St,bs.length=n∧σ4=bs ++ cs)∧tt σ4 H4 fun ok H5=>if ok=true then
   te σ4 H5 (41:)
   else ∃ m',m' < m∧W (i + 1) m' H5)
section
variable {K:PySem.W.Frag} {a b acc:Addr} {xs zs:List V} {tt:TT} {te:TE} {cs:St} {H1:Hp} {Q:Hp→Prop}
theorem Yj (Pv:Nat→List V→Hp→Prop) (h0:Pv 0 [] (upd H1 acc (.lst []))) (hl:∀ i ys H,i≤xs.length→Pv i ys H→SqL K H a xs)
 (hs:∀ i x ys H,i < xs.length→xs[i]?=some x→Pv i ys H→tt (some x :: cs) H (MH xs.length Pv acc i te (some x :: cs))) (hd:∀ ys H,Pv xs.length ys H→Q H):Jc (Itl K a) 1 cs (Zt 0) tt te H1 acc Q:=by
 refine Zs Pv h0 (fun ys H p=>⟨⟨xs,hl _ _ _ (9:) p,Nat.le_refl _⟩,hd ys H p⟩) fun i ys H hi p=>⟨⟨xs,xs[i],hl _ _ _ (Nat.le_of_lt hi) p,List.getElem?_eq_getElem hi⟩,?_⟩
 rintro x H3 ⟨rfl,hx⟩ as has
 obtain ⟨a0,rfl⟩ : ∃ a0,as=[a0]:=List.length_eq_one_iff.mp has
 exact ⟨⟨[some x],rfl,rfl⟩,hs i x ys _ hi (hx xs (hl _ _ _ (Nat.le_of_lt hi) p)) p⟩
theorem M7 (Pv:Nat→List V→Hp→Prop) (h0:Pv 0 [] (upd H1 acc (.lst []))) (hl:∀ i ys H,i≤xs.length→Pv i ys H→SqT K H a xs)
 (hs:∀ i x ys H,i < xs.length→xs[i]?=some x→Pv i ys H→tt (some x :: cs) H (MH xs.length Pv acc i te (some x :: cs))) (hd:∀ ys H,Pv xs.length ys H→Q H):Jc (Itt K a) 1 cs (Zt 0) tt te H1 acc Q:=by
 refine Zs Pv h0 (fun ys H p=>⟨⟨xs,hl _ _ _ (9:) p,Nat.le_refl _⟩,hd ys H p⟩) fun i ys H hi p=>⟨⟨xs,xs[i],hl _ _ _ (Nat.le_of_lt hi) p,List.getElem?_eq_getElem hi⟩,?_⟩
 rintro x H3 ⟨rfl,hx⟩ as has
 obtain ⟨a0,rfl⟩ : ∃ a0,as=[a0]:=List.length_eq_one_iff.mp has
 exact ⟨⟨[some x],rfl,rfl⟩,hs i x ys _ hi (hx xs (hl _ _ _ (Nat.le_of_lt hi) p)) p⟩
theorem U6 {lo:Int} {n:Nat} (Pv:Nat→List V→Hp→Prop) (h0:Pv 0 [] (upd H1 acc (.lst [])))
 (hs:∀ i ys H,i < n→Pv i ys H→tt (some (.int (lo + i)) :: cs) H (MH n Pv acc i te (some (.int (lo + i)) :: cs))) (hd:∀ ys H,Pv n ys H→Q H):Jc (Itr lo n) 1 cs (Zt 0) tt te H1 acc Q:=by
 refine Zs Pv h0 (fun ys H p=>⟨Nat.le_refl _,hd ys H p⟩) fun i ys H hi p=>⟨hi,?_⟩
 rintro x H3 ⟨rfl,rfl⟩ as has
 obtain ⟨a0,rfl⟩ : ∃ a0,as=[a0]:=List.length_eq_one_iff.mp has
 exact ⟨⟨[some _],rfl,rfl⟩,hs i ys _ hi p⟩
theorem MF {as:St} (h:as.length=2):∃ a0 a1,as=[a0,a1]:=by
 match as,h with
 | [a0,a1],_=>exact ⟨a0,a1,rfl⟩
theorem Ui (Pv:Nat→List V→Hp→Prop) (h0:Pv 0 [] (upd H1 acc (.lst []))) (hl:∀ i ys H,i≤xs.length→Pv i ys H→SqL K H a xs)
 (hs:∀ i x ys H,i < xs.length→xs[i]?=some x→Pv i ys H→∃ p u v,x=.ref p∧SqT K H p [u,v]∧tt (some u :: some v :: cs) H (MH xs.length Pv acc i te (some u :: some v :: cs))) (hd:∀ ys H,Pv xs.length ys H→Q H):Jc (Itl K a) 2 cs (L4 K 2 (UL (Zt 0) (UL (Zt 1) L7))) tt te H1 acc Q:=by
 refine Zs Pv h0 (fun ys H p=>⟨⟨xs,hl _ _ _ (9:) p,Nat.le_refl _⟩,hd ys H p⟩) fun i ys H hi p=>⟨⟨xs,xs[i],hl _ _ _ (Nat.le_of_lt hi) p,List.getElem?_eq_getElem hi⟩,?_⟩
 rintro x H3 ⟨rfl,hx⟩ as has
 obtain ⟨a0,a1,rfl⟩:=MF has
 obtain ⟨q,u,v,rfl,hq,h⟩:=hs i x ys _ hi (hx xs (hl _ _ _ (Nat.le_of_lt hi) p)) p
 exact ⟨q,[u,v],rfl,hq,rfl,u,[v],rfl,v,[],rfl,rfl,⟨[some u,some v],rfl,rfl⟩,h⟩
end
end L2
namespace L2
open PySem PySem.Spec PyProof.Rows
section
variable {κ:Type} [DecidableEq κ]
def ZJ (kvs:List (κ × V)) (k:κ):Option V:=(kvs.find? fun kv=>decide (kv.1=k)).map (·.2)
def YZ (kvs:List (κ × V)) (k:κ) (v:V):List (κ × V) :=
 if (kvs.any fun kv=>decide (kv.1=k))=true then kvs.map (fun kv=>if kv.1=k then (kv.1,v) else kv) else kvs ++ [(k,v)]
theorem ZF {p:κ × V} {r:List (κ × V)} {k:κ} (e:p.1=k):ZJ (p :: r) k=some p.2:=by simp [ZJ,List.find?_cons,e]
theorem ZE {p:κ × V} {r:List (κ × V)} {k:κ} (e:¬ p.1=k):ZJ (p :: r) k=ZJ r k:=by simp [ZJ,List.find?_cons,e]
theorem UY (k:κ):∀ kvs:List (κ × V),(kvs.any fun kv=>decide (kv.1=k))=(ZJ kvs k).isSome
 | []=>rfl
 | p :: r=>by
  rw [List.any_cons]
  by_cases e:p.1=k
  ·simp only [ZF e,decide_eq_true e,Bool.true_or,Option.isSome_some]
  ·rw [ZE e,decide_eq_false e,Bool.false_or];exact UY k r
theorem Y9 (kvs:List (κ × V)) (k:κ) (v:V):(YZ kvs k v).length≤kvs.length + 1:=by
 unfold YZ
 split
 ·rw [List.length_map];lia
 ·rw [List.length_append,List.length_cons,List.length_nil];lia
theorem Xw {kvs:List (κ × V)} {k:κ} (v:V) (h:ZJ kvs k=none):YZ kvs k v=kvs ++ [(k,v)]:=by
 unfold YZ
 rw [UY,h]
 exact if_neg (18:)
theorem RelO.isSome_eq {o:Option V} {u:Option Value} (r:RelO o u):o.isSome=u.isSome:=by
 cases o with
 | none=>cases u with
  | none=>rfl
  | some _=>exact (show False from r).elim
 | some _=>cases u with
  | none=>exact (show False from r).elim
  | some _=>rfl
theorem RelO.getD {o:Option V} {u:Option Value} {d:V} {d':Value} (r:RelO o u) (rd:RelV d d'):RelV (o.getD d) (u.getD d'):=by
 cases o with
 | none=>cases u with
  | none=>exact rd
  | some _=>exact (show False from r).elim
 | some _=>cases u with
  | none=>exact (show False from r).elim
  | some _=>exact r
theorem KV.val {kvs:List (κ × V)} {vs:List (κ × Value)} (r:KV kvs vs) (k:κ):RelO (ZJ kvs k) (valueAt vs k):=by
 unfold KV at r
 induction r with
 | nil=>exact True.intro
 | @cons p q ps qs h t ih =>
  obtain ⟨h1,h2⟩:=h
  by_cases e:p.1=k
  ·have e':q.1=k:=h1.symm.trans e
   have b:valueAt (q :: qs) k=some q.2:=by simp [valueAt,List.find?_cons,e']
   rw [ZF e,b];exact h2
  ·have e':¬ q.1=k:=fun z=>e (h1.trans z)
   have b:valueAt (q :: qs) k=valueAt qs k:=by simp [valueAt,List.find?_cons,e']
   rw [ZE e,b];exact ih
theorem KV.any {kvs:List (κ × V)} {vs:List (κ × Value)} (r:KV kvs vs) (k:κ):(kvs.any fun kv=>decide (kv.1=k))=vs.any fun kv=>decide (kv.1=k):=by
 unfold KV at r
 induction r with
 | nil=>rfl
 | cons h t ih=>rw [List.any_cons,List.any_cons,ih,h.1]
theorem KV.repl {kvs:List (κ × V)} {vs:List (κ × Value)} (r:KV kvs vs) (k:κ) {y:V} {u:Value} (ry:RelV y u) :
 KV (kvs.map fun kv=>if kv.1=k then (kv.1,y) else kv) (vs.map fun kv=>if kv.1=k then (kv.1,u) else kv):=by
 unfold KV at r ⊢
 induction r with
 | nil=>exact .nil
 | @cons p q ps qs h t ih =>
  rw [List.map_cons,List.map_cons]
  refine .cons ?_ ih
  obtain ⟨h1,h2⟩:=h
  by_cases e:p.1=k
  ·rw [if_pos e,if_pos (h1.symm.trans e)];exact ⟨h1,ry⟩
  ·rw [if_neg e,if_neg (fun z=>e (h1.trans z))];exact ⟨h1,h2⟩
theorem KV.put {kvs:List (κ × V)} {vs:List (κ × Value)} (r:KV kvs vs) (k:κ) {y:V} {u:Value} (ry:RelV y u):KV (YZ kvs k y) (stored vs k u):=by
 unfold YZ stored
 rw [r.any k]
 by_cases e:(vs.any fun kv=>decide (kv.1=k))=true
 ·rw [if_pos e,if_pos e];exact r.repl k ry
 ·rw [if_neg e,if_neg e];exact Paired.snoc r ⟨rfl,ry⟩
theorem KV.length {kvs:List (κ × V)} {vs:List (κ × Value)} (r:KV kvs vs):kvs.length=vs.length:=Paired.length r
end
theorem UA {P:Program} {w:World} {k:Key} {u:Value} (r:RelV (kV k) u):(QA P w).is k u=true:=by
 cases k with
 | inl i=>obtain ⟨t,e⟩:=(show ∃ t,u=Value.int i t from r);subst e;exact XJ P w i t
 | inr x=>obtain ⟨t,e⟩:=(show ∃ t,u=Value.str x t from r);subst e;exact XV P w x t
theorem Jb {P:Program} {w:World}:∀ {ks:List Key} {us:List Value},Vals (ks.map kV) us→ItemsAre (QA P w) ks us
 | [],_,r=>by rw [List.map_nil] at r;cases r;exact .nil
 | k :: ks,_,r=>by
  rw [List.map_cons] at r
  cases r with
  | cons h t=>exact .cons (UA h) (Jb t)
abbrev KT (H:Hp):List (List Key × V)→List (List Key × Addr × Value)→Prop:=Paired fun p q=>p.1=q.1∧H q.2.1=some (.tup (p.1.map kV))∧RelV p.2 q.2.2
theorem KT.val {H:Hp} {kvs:List (List Key × V)} {xs:List (List Key × Addr × Value)} (r:KT H kvs xs) (k:List Key):RelO (ZJ kvs k) ((atKey xs k).map (·.2)):=by
 induction r with
 | nil=>exact True.intro
 | @cons p q ps qs h t ih =>
  obtain ⟨h1,_,h2⟩:=h
  by_cases e:p.1=k
  ·have e':q.1=k:=h1.symm.trans e
   have b:atKey (q :: qs) k=some q.2:=by simp [atKey,List.find?_cons,e']
   rw [ZF e,b];exact h2
  ·have e':¬ q.1=k:=fun z=>e (h1.trans z)
   have b:atKey (q :: qs) k=atKey qs k:=by simp [atKey,List.find?_cons,e']
   rw [ZE e,b];exact ih
theorem KT.repl {H:Hp} {kvs:List (List Key × V)} {xs:List (List Key × Addr × Value)} (r:KT H kvs xs) (k:List Key) {y:V} {u:Value} (ry:RelV y u) :
 KT H (kvs.map fun kv=>if kv.1=k then (kv.1,y) else kv) (xs.map (putAt k u)):=by
 induction r with
 | nil=>exact .nil
 | @cons p q ps qs h t ih =>
  rw [List.map_cons,List.map_cons]
  refine .cons ?_ ih
  obtain ⟨h1,h2,h3⟩:=h
  unfold putAt
  by_cases e:p.1=k
  ·rw [if_pos e,if_pos (h1.symm.trans e)];exact ⟨h1,h2,ry⟩
  ·rw [if_neg e,if_neg (fun z=>e (h1.trans z))];exact ⟨h1,h2,h3⟩
theorem KT.put {H:Hp} {kvs:List (List Key × V)} {xs:List (List Key × Addr × Value)} (r:KT H kvs xs) (k:List Key) {b:Addr} {y:V} {u:Value} (hb:H b=some (.tup (k.map kV))) (ry:RelV y u) :
 KT H (YZ kvs k y) (storedH xs k b u):=by
 have e:(kvs.any fun kv=>decide (kv.1=k))=(atKey xs k).isSome:=by
  rw [UY,(r.val k).isSome_eq,Option.isSome_map]
 unfold YZ storedH
 rw [e]
 by_cases q:(atKey xs k).isSome=true
 ·rw [if_pos q,if_pos q];exact r.repl k ry
 ·rw [if_neg q,if_neg q];exact Paired.snoc r ⟨rfl,hb,ry⟩
theorem KT.keeps {H H':Hp} {kvs:List (List Key × V)} {xs:List (List Key × Addr × Value)} (r:KT H kvs xs) (ht:∀ b ys,H b=some (.tup ys)→H' b=some (.tup ys)):KT H' kvs xs :=
 Paired.mapP r fun _ _ z=>⟨z.1,ht _ _ z.2.1,z.2.2⟩
section
variable {P:Program} {w:World} {H:Hp} {h:Heap} {a:Addr}
theorem MP {u:HO} (ok:HOk P w H h) (e:Rd H a u):ObjOk P w H h a u:=e.ok ok
theorem UE {kvs:List (Key × V)} (ok:HOk P w H h) (e:Rd H a (.dK kvs)):kvs.length≤sizeLine∧(a == sysModules)=false∧∃ vs,KV kvs vs∧h.DictOf (QA P w) a vs :=
 show ObjOk P w H h a (.dK kvs) from MP ok e
theorem Od {kvs:List (Key × V)} (ok:HOk P w H h) (e:H a=some (.dK kvs)):kvs.length≤sizeLine∧(a == sysModules)=false∧∃ vs,KV kvs vs∧h.DictOf (QA P w) a vs:=UE ok (.inl e)
theorem YO {ks:List Key} (ok:HOk P w H h) (e:H a=some (.tup (ks.map kV))):(tupleKind (QA P w)).is h ks a:=by
 obtain ⟨_,its,r,o,h1,h2,n,h3⟩:=(show ObjOk P w H h a (.tup (ks.map kV)) from ok a _ e)
 exact ⟨o,its.toArray,n,h1,h2,h3,by simpa using Jb r⟩
theorem Uz {kvs:List (List Key × V)} (ok:HOk P w H h) (e:Rd H a (.dT kvs)):kvs.length≤sizeLine∧(a == sysModules)=false ∧
 ∃ xs,KT H kvs xs∧h.DictOfH (tupleKind (QA P w)) a xs:=by
 obtain ⟨z,y,xs,r,o,es,ep,h1,h2,h3,h4,h5⟩:=(show ObjOk P w H h a (.dT kvs) from MP ok e)
 refine ⟨z,y,xs,r,o,es,ep,h1,h2,h3,h4,fun x hx=>?_,h5⟩
 have all:∀ {l:List (List Key × V)} {m:List (List Key × Addr × Value)},KT H l m→∀ x ∈ m,(tupleKind (QA P w)).is h x.1 x.2.1:=by
  intro l m q
  induction q with
  | nil=>intro x hx;exact nomatch hx
  | @cons p q ps qs hq t ih =>
   intro x hx
   rcases List.mem_cons.mp hx with e | hx
   ·subst e
    exact YO ok (by rw [← hq.1];exact hq.2.1)
   ·exact ih x hx
 exact all r x hx
theorem Oz {kvs:List (List Key × V)} (ok:HOk P w H h) (e:H a=some (.dT kvs)):kvs.length≤sizeLine∧(a == sysModules)=false ∧
 ∃ xs,KT H kvs xs∧h.DictOfH (tupleKind (QA P w)) a xs:=Uz ok (.inl e)
end
def DGet (H:Hp) (a:Addr) (y:V) (r:Option V):Prop :=
 (∃ kvs k,Rd H a (.dK kvs)∧y=kV k∧r=ZJ kvs k)∨∃ kvs k b,Rd H a (.dT kvs)∧y=.ref b∧H b=some (.tup (k.map kV))∧r=ZJ kvs k
def DPut (H:Hp) (a:Addr) (y v:V) (H':Hp):Prop :=
 (∃ kvs k,H a=some (.dK kvs)∧y=kV k∧kvs.length < sizeLine∧H'=upd H a (.dK (YZ kvs k v))) ∨
 ∃ kvs k b,H a=some (.dT kvs)∧y=.ref b∧H b=some (.tup (k.map kV))∧kvs.length < sizeLine∧H'=upd H a (.dT (YZ kvs k v))
theorem DGet.k {H:Hp} {a:Addr} {kvs:List (Key × V)} {k:Key} (e:H a=some (.dK kvs)):DGet H a (kV k) (ZJ kvs k):=.inl ⟨kvs,k,.inl e,rfl,rfl⟩
theorem DGet.t {H:Hp} {a b:Addr} {kvs:List (List Key × V)} {k:List Key} (e:H a=some (.dT kvs)) (eb:H b=some (.tup (k.map kV))):DGet H a (.ref b) (ZJ kvs k):=.inr ⟨kvs,k,b,.inl e,rfl,eb,rfl⟩
theorem DPut.t {H:Hp} {a b:Addr} {kvs:List (List Key × V)} {k:List Key} {v:V} (e:H a=some (.dT kvs)) (eb:H b=some (.tup (k.map kV))) (hl:kvs.length < sizeLine) :
 DPut H a (.ref b) v (upd H a (.dT (YZ kvs k v))):=.inr ⟨kvs,k,b,e,rfl,eb,hl,rfl⟩
section
variable {X:Cx} {pins:List (10:)} {σ:St} {H:Hp} {s:Shared} {a:Addr} {y v:V} {u r:Value} {o:Option V} {A:Around} {E:Value→Shared→Prop}
theorem Inv.big (I:Inv X pins σ H s):sysModules < s.heap.objs.size:=by
 have h:mainGlobals < s.heap.objs.size:=(I.mod.glob.keeps I.bk).lt
 exact Nat.lt_trans (18:) h
theorem VS {Q:Value→Shared→Prop} (hu:A.units + 1 < cLine) (I:Inv X pins σ H s) (g:DGet H a y (some v)) (ry:RelV y u) (h:∀ w' s',Inv X pins σ H s'→RelV v w'→Q w' s') :
 wpAny (6:) A (getItem (.ref a) u) Q E s:=by
 rcases g with ⟨kvs,k,e,ey,l⟩ | ⟨kvs,k,b,e,ey,eb,l⟩
 ·subst ey
  obtain ⟨z,hd,vs,rel,dd⟩:=UE I.hok e
  obtain ⟨w',hw,rw'⟩:=RelO.some_of (v:=v) (o:=valueAt vs k) (by rw [l];exact rel.val k)
  exact wpAny_getItem_of (UA ry) dd.mapOf hw (h w' _ (I.tok _) rw')
 ·subst ey
  cases (show u=Value.ref b from ry)
  obtain ⟨z,hd,xs,rel,dd⟩:=Uz I.hok e
  obtain ⟨w',hw,rw'⟩:=RelO.some_of (v:=v) (o:=(atKey xs k).map (·.2)) (by rw [l];exact rel.val k)
  obtain ⟨p,hp,hp2⟩:=Option.map_eq_some_iff.mp hw
  refine wpAny_getItem_heap (tupleKind_room_in1 hu) (YO I.hok eb) dd hp ?_
  rw [hp2]
  exact h w' _ (I.tok _) rw'
theorem LW {Q:Value→Shared→Prop} (hu:A.units + 1 < cLine) (I:Inv X pins σ H s) (g:DGet H a y o) (ry:RelV y u) (h:∀ s',Inv X pins σ H s'→Q (.bool (!o.isSome)) s') :
 wpAny (6:) A (compareOp .NotIn u (.ref a)) Q E s:=by
 rcases g with ⟨kvs,k,e,ey,l⟩ | ⟨kvs,k,b,e,ey,eb,l⟩
 ·subst ey
  obtain ⟨z,hd,vs,rel,dd⟩:=UE I.hok e
  refine wpAny_notIn_of (UA ry) hd dd.mapOf ?_
  rw [← (rel.val k).isSome_eq,← l]
  exact h _ (I.tok _)
 ·subst ey
  cases (show u=Value.ref b from ry)
  obtain ⟨z,hd,xs,rel,dd⟩:=Uz I.hok e
  refine wpAny_notIn_heap (tupleKind_room_in1 hu) (YO I.hok eb) hd dd ?_
  have q:=(rel.val k).isSome_eq
  rw [Option.isSome_map] at q
  rw [← q,← l]
  exact h _ (I.tok _)
theorem Vb {h':Heap} {t':Nat} {ob:HO} (I:Inv X pins σ H s) (mu:Mut (H a)) (hs:Heap.SameBut a s.heap h') (he:∃ q,h'.get? a=some q) (new:ObjOk X.prog X.w (upd H a ob) h' a ob) :
 Inv X pins σ (upd H a ob) { s with heap:=h',toks:=t' } :=
 I.write (x:=a) (e:=a) mu (.inl rfl) (fun b q hb z=>(hs.2 b hb).trans z) he new
theorem GM {P:Program} {w:World} {H':Hp} {h':Heap} {kvs:List (Key × V)} {vs:List (Key × Value)} (z:kvs.length≤sizeLine) (hd:(a == sysModules)=false) (rel:KV kvs vs) (dd:h'.DictOf (QA P w) a vs) :
 ObjOk P w H' h' a (.dK kvs):=⟨z,hd,vs,rel,dd⟩
theorem Vz {H':Hp} {Q:Unit→Shared→Prop} (hu:A.units + 1 < cLine) (I:Inv X pins σ H s) (g:DPut H a y v H') (ry:RelV y u) (rv:RelV v r) (h:∀ s',Inv X pins σ H' s'→Q () s') :
 wpAny (6:) A (setItem (.ref a) u r) Q E s:=by
 rcases g with ⟨kvs,k,e,ey,l,eH⟩ | ⟨kvs,k,b,e,ey,eb,l,eH⟩
 ·subst ey eH
  obtain ⟨z,hd,vs,rel,dd⟩:=Od I.hok e
  have hz:vs.length≤sizeLine:=by rw [← rel.length];exact z
  have hl:(YZ kvs k v).length≤sizeLine:=by have:=Y9 kvs k v;lia
  refine wpAny_setItem_pairs (hsz:=hz) (UA ry) dd fun h' dd' hs=>h _ ?_
  have he:∃ q,h'.get? a=some q:=let ⟨q,_,_,hq,_⟩:=dd';⟨q,hq⟩
  exact Vb I (by rw [e];exact True.intro) hs he (GM hl hd (rel.put k rv) dd')
 ·subst ey eH
  cases (show u=Value.ref b from ry)
  obtain ⟨z,hd,xs,rel,dd⟩:=Oz I.hok e
  have hz:xs.length≤sizeLine:=by rw [← Paired.length rel];exact z
  have hl:(YZ kvs k v).length≤sizeLine:=by have:=Y9 kvs k v;lia
  refine wpAny_setItem_heap (hsz:=hz) (tupleKind_room_in1 hu) (YO I.hok eb) dd fun h' dd' hs=>h _ ?_
  obtain ⟨q,es,ep,hq,h2,h3,h4,_,h5⟩:=dd'
  refine Vb I (by rw [e];exact True.intro) hs ⟨q,hq⟩ ⟨hl,hd,_,(rel.put k eb rv).keeps fun c ys ec=>?_,q,es,ep,hq,h2,h3,h4,h5⟩
  rw [Qj (ne_of ec e (44:))]
  exact ec
end
section
variable {X:Cx} {pins:List (10:)} {σ:St} {H:Hp} {s:Shared} {a:Addr} {kvs:List (Key × V)} {k:Key} {u:Value} {A:Around} {E:Value→Shared→Prop}
end
def Ox (i:Expr):Prop:=∀ ov iv,subscripted i false ov iv=operate [ov,iv] (getItem ov iv)
theorem LL {prog:Program} {w:World} {A:Around} {E:Value→Shared→Prop} {s:Shared} {env:Env} {value slice:Expr} {pos:Pos} {T id:String} {Q:Value→Shared→Prop}
 (hl:typeLookup (.type T) "__getitem__" = pure (some (.builtin id))) (hs:Ox slice)
 (h:wpAny (26:) A (eval value env) (fun o s₁=>wpAny (26:) A (eval slice env) (fun i s₂=>s₂.TypeIs o T∧wpAny (26:) A (getItem o i) Q E s₂) E s₁) E s) :
 wpAny (26:) A (eval (.Subscript value slice pos) env) Q E s:=by
 refine Subscript_ (wpAny_mono h (fun o s₁ h₁=>wpAny_mono h₁ (fun i s₂ h₂=>?_) fun _ _ x=>x) fun _ _ x=>x)
 obtain ⟨hT,h₂⟩:=h₂
 unfold subscriptTail
 refine wpAny_bind ?_
 rw [getitemInPython_of_ne hT.not_modules]
 refine wpAny_bind (wpAny_specialOf hT hl ?_)
 have fin:wpAny (26:) A (subscripted slice false o i) (fun r s₃=>wpAny (26:) A (letTemporaryGo value o r >>= fun _=>pure r) Q E s₃) E s₂:=by
  rw [hs o i]
  exact wpAny_operating (wpAny_mono h₂ (fun r s₃ h₃=>wpAny_bind (wpAny_letTemporaryGo (wpAny_pure h₃))) fun _ _ x=>x)
 first
  | exact wpAny_pure (wpAny_bind fin)
  | exact wpAny_bind (wpAny_pure (wpAny_bind fin))
  | exact wpAny_bind fin
theorem XF {X:Cx} {pins:List (10:)} {σ:St} {H:Hp} {s:Shared} {a:Addr} {y:V} {o:Option V} (I:Inv X pins σ H s) (g:DGet H a y o):s.TypeIs (.ref a) "dict" := by
 rcases g with ⟨kvs,k,e,_,_⟩ | ⟨kvs,k,b,e,_,_,_⟩
 ·obtain ⟨_,_,vs,_,dd⟩:=UE I.hok e
  exact dd.typeIs
 ·obtain ⟨_,_,xs,_,dd⟩:=Uz I.hok e
  exact dd.typeIs
def N8 (td ty:TE):TE:=fun σ H Q=>td σ H fun x H1=>ty σ H1 fun y H2=>∃ a v,x=.ref a∧DGet H2 a y (some v)∧Q v H2
def L8 (ty td:TE):TE:=fun σ H Q=>ty σ H fun y H1=>td σ H1 fun x H2=>∃ a o,x=.ref a∧DGet H2 a y o∧Q (.bl (!o.isSome)) H2
def N4 (td ty tv:TE):TS:=fun D σ H=>tv σ H fun v H1=>td σ H1 fun x H2=>ty σ H2 fun y H3=>∃ a H4,x=.ref a∧DPut H3 a y v H4∧D.nx σ H4
section
variable {X:Cx} {o i e value:Expr} {pos pos' tpos:Pos} {td ty tv:TE}
theorem Zg (hu:X.A.units + 1 < cLine) (ho:PE X o td) (hi:PE X i ty) (hs:Ox i):PE X (.Subscript o i pos) (N8 td ty):=by
 intro pins s σ H Q I h
 refine LL PySem.F.slot_dict_getitem.lookup hs (thn (ho pins s σ H _ I h) fun u s1 ⟨x,H1,I1,rx,q1⟩=>thn (hi pins s1 σ H1 _ I1 q1) fun iv s2 ⟨y,H2,I2,ry,a,v,ex,g,q2⟩=>?_)
 subst ex
 obtain rfl:u=Value.ref a:=rx
 exact ⟨XF I2 g,VS hu I2 g ry fun w' s3 I3 rw'=>⟨v,H2,I3,rw',q2⟩⟩
theorem Jm (hu:X.A.units + 1 < cLine) (hi:PE X i ty) (ho:PE X o td):PC X .NotIn i o (L8 ty td):=by
 intro pins s σ H Q I h
 refine thn (hi pins s σ H _ I h) fun iv s1 ⟨y,H1,I1,ry,q1⟩=>thn (ho pins s1 σ H1 _ I1 q1) fun u s2 ⟨x,H2,I2,rx,a,ov,ex,g,q2⟩=>?_
 subst ex
 obtain rfl:u=Value.ref a:=rx
 exact LW hu I2 g ry fun s3 I3=>⟨.bl (!ov.isSome),H2,I3,rfl,q2⟩
theorem WT (hu:X.A.units + 1 < cLine) (ho:PE X o td) (hi:PE X i ty) (hv:PE X value tv) (hs:swapsWith value (some (.Subscript o i pos')) pos.line X.env=pure false) :
 PS X (.Assign [.Subscript o i pos'] value pos) (N4 td ty tv):=by
 intro pins s σ H D I h
 refine wpAny_Assign_Subscript (thn (hv pins s σ H _ I h) fun r s1 ⟨v,H1,I1,rv,q1⟩=>thn (ho pins s1 σ H1 _ I1 q1) fun u s2 ⟨x,H2,I2,rx,q2⟩=>thn (hi pins s2 σ H2 _ I2 q2) fun iv s3 ⟨y,H3,I3,ry,a,H4,ex,g,q3⟩=>?_) hs
 subst ex
 obtain rfl:u=Value.ref a:=rx
 exact Vz hu I3 g ry rv fun s4 I4=>⟨σ,H4,I4,q3⟩
end
theorem V1 {P:Program} {w:World} {H:Hp} (h:Heap) (hb:sysModules < h.objs.size):ObjOk P w H (h.push { cls:=.type "dict", data:=.dict #[] }) h.objs.size (.dT []) :=
 ⟨Nat.zero_le _,beq_eq_false_iff_ne.mpr (Ne.symm (Nat.ne_of_lt hb)),[],.nil,_,#[],0,Heap.get?_push_size _ rfl,⟨rfl,rfl,rfl⟩,rfl,rfl,List.nodup_nil⟩
def M9:TE:=fun _ H Q=>∀ p,H p=none→Q (.ref p) (upd H p (.dT []))
section
variable {X:Cx} {pos:Pos}
theorem Xx:PE X (.Dict [] [] pos) M9:=fun pins s σ H Q I h =>
 wpAny_Dict_empty ⟨.ref s.heap.objs.size,_,I.laid (a:=s.heap.objs.size) (o:=.dT []) (t':=s.toks) (fun _ _ q=>Heap.get?_push_of_some _ q) (9:) (V1 s.heap I.big),rfl,h _ (I.hok.fresh (9:))⟩
end
structure M1 (X:Cx) (o:Expr) (m:Str) (apos:Pos) (e:Expr) (cpos:Pos):Prop where
 base:attributeBase o m X.env (eval o X.env)=eval o X.env
 few:((backTo cpos (starEach [e] X.env)).all (fun x=>!x.1) && (backToKw cpos (keywordEach [] X.env)).all (fun x=>x.1.isSome)
  && decide (([e]:List Expr).length + ([]:List Keyword).length + (if ([]:List Keyword).isEmpty then 0 else 1) < 30))=true
 line:(apos.endLine == cpos.line)=true
 trees:backTo cpos (starEach [e] X.env)=[(false,eval e X.env)]
structure M2 (X:Cx) (o:Expr) (m:Str) (apos:Pos) (e f:Expr) (cpos:Pos):Prop where
 base:attributeBase o m X.env (eval o X.env)=eval o X.env
 few:((backTo cpos (starEach [e,f] X.env)).all (fun x=>!x.1) && (backToKw cpos (keywordEach [] X.env)).all (fun x=>x.1.isSome)
  && decide (([e,f]:List Expr).length + ([]:List Keyword).length + (if ([]:List Keyword).isEmpty then 0 else 1) < 30))=true
 line:(apos.endLine == cpos.line)=true
 trees:backTo cpos (starEach [e,f] X.env)=[(false,eval e X.env),(false,eval f X.env)]
def IsD (H:Hp) (a:Addr):Prop:=(∃ kvs,Rd H a (.dK kvs))∨∃ kvs,Rd H a (.dT kvs)
theorem G4 {X:Cx} {pins:List (10:)} {σ:St} {H:Hp} {s:Shared} {a:Addr} (I:Inv X pins σ H s) (d:IsD H a) :
 s.TypeIs (.ref a) "dict" ∧ (∀ b,Value.ref a=.ref b→∃ ob,s.heap.get? b=some ob∧ob.dict=none)∧(a == sysModules)=false:=by
 rcases d with ⟨kvs,e⟩ | ⟨kvs,e⟩
 ·obtain ⟨_,hd,vs,_,dd⟩:=UE I.hok e
  refine ⟨dd.typeIs,fun b q=>?_,hd⟩
  cases q
  obtain ⟨ob,_,_,h1,h2,_⟩:=dd
  exact ⟨ob,h1,h2.2.1⟩
 ·obtain ⟨_,hd,xs,_,dd⟩:=Uz I.hok e
  refine ⟨dd.typeIs,fun b q=>?_,hd⟩
  cases q
  obtain ⟨ob,_,_,h1,h2,_⟩:=dd
  exact ⟨ob,h1,h2.2.1⟩
section
variable {X:Cx} {pins:List (10:)} {σ:St} {H:Hp} {s:Shared} {a:Addr} {y d:V} {u r:Value} {o:Option V} {A:Around} {E:Value→Shared→Prop}
theorem NY {Q:Value→Shared→Prop} (hu:A.units + 1 < cLine) (I:Inv X pins σ H s) (g:DGet H a y o) (ry:RelV y u) (h:∀ w' s',Inv X pins σ H s'→RelV (o.getD .non) w'→Q w' s') :
 wpAny (6:) A (call (.builtin "dict.get") [.ref a,u]) Q E s:=by
 rcases g with ⟨kvs,k,e,ey,l⟩ | ⟨kvs,k,b,e,ey,eb,l⟩
 ·subst ey
  obtain ⟨z,hd,vs,rel,dd⟩:=UE I.hok e
  refine call_meetsIn PySem.F.slot_dict_get dd.typeIs PySem.F.entry_dict_get (PySem.F.args_dict_get_2 _ _) (meets_dict_get (QA X.prog X.w) a (UA ry) hd) ⟨_,dd.mapOf,h _ _ (I.tok _) ?_⟩
  rw [l]
  exact (rel.val k).getD rfl
 ·subst ey
  cases (show u=Value.ref b from ry)
  obtain ⟨z,hd,xs,rel,dd⟩:=Uz I.hok e
  refine call_meetsIn PySem.F.slot_dict_get dd.typeIs PySem.F.entry_dict_get (PySem.F.args_dict_get_2 _ _) (meetsH_dict_get (tupleKind (QA X.prog X.w)) a b hd) ⟨tupleKind_room_in1 hu,k,xs,YO I.hok eb,dd,h _ _ (I.tok _) ?_⟩
  rw [l]
  exact (rel.val k).getD rfl
theorem M5 {Q:Value→Shared→Prop} (hu:A.units + 1 < cLine) (I:Inv X pins σ H s) (g:DGet H a y o) (ry:RelV y u) (rd:RelV d r) (h:∀ w' s',Inv X pins σ H s'→RelV (o.getD d) w'→Q w' s') :
 wpAny (6:) A (call (.builtin "dict.get") [.ref a,u,r]) Q E s:=by
 rcases g with ⟨kvs,k,e,ey,l⟩ | ⟨kvs,k,b,e,ey,eb,l⟩
 ·subst ey
  obtain ⟨z,hd,vs,rel,dd⟩:=UE I.hok e
  refine call_meetsIn PySem.F.slot_dict_get dd.typeIs PySem.F.entry_dict_get (PySem.F.args_dict_get_3 _ _ _) (meets_dict_get_default (QA X.prog X.w) a (UA ry) hd r) ⟨_,dd.mapOf,h _ _ (I.tok _) ?_⟩
  rw [l]
  exact (rel.val k).getD rd
 ·subst ey
  cases (show u=Value.ref b from ry)
  obtain ⟨z,hd,xs,rel,dd⟩:=Uz I.hok e
  refine call_meetsIn PySem.F.slot_dict_get dd.typeIs PySem.F.entry_dict_get (PySem.F.args_dict_get_3 _ _ _) (meetsH_dict_get_default (tupleKind (QA X.prog X.w)) a b hd r) ⟨tupleKind_room_in1 hu,k,xs,YO I.hok eb,dd,h _ _ (I.tok _) ?_⟩
  rw [l]
  exact (rel.val k).getD rd
end
def Nk (td ty:TE):TE:=fun σ H Q=>td σ H fun x H1=>∃ a,x=.ref a∧IsD H1 a∧ty σ H1 fun y H2=>∃ o,DGet H2 a y o∧Q (o.getD .non) H2
def NA (td ty tx:TE):TE:=fun σ H Q=>td σ H fun x H1=>∃ a,x=.ref a∧IsD H1 a∧ty σ H1 fun y H2=>tx σ H2 fun z H3=>∃ o,DGet H3 a y o∧Q (o.getD z) H3
section
variable {X:Cx} {o e f:Expr} {apos cpos:Pos} {td ty tx:TE}
theorem G6 (hu:X.A.units + 1 < cLine) (ho:PE X o td) (he:PE X e ty) (m:M1 X o "get" apos e cpos):PE X (.Call (.Attribute o "get" apos) [e] [] cpos) (Nk td ty):=by
 intro pins s σ H Q I h
 refine wpAny_Call_method m.base m.few m.line PySem.F.plainAttrs_dict PySem.F.slot_dict_get PySem.F.type_dict_get (thn (ho pins s σ H _ I h) fun u s1 ⟨x,H1,I1,rx,a,ex,d,q1⟩=>?_)
 subst ex
 obtain rfl:u=Value.ref a:=rx
 obtain ⟨t1,t2,_⟩:=G4 I1 d
 refine ⟨t1,t2,?_⟩
 rw [m.trees]
 refine Calls.callWith_builtin rfl (Calls.evalArgs_plain (Calls.spliced_cons (thn (he pins s1 σ H1 _ I1 q1) fun iv s2 ⟨y,H2,I2,ry,ov,g,q2⟩=>Calls.spliced_nil ?_)))
 exact NY hu I2 g ry fun w' s3 I3 rw'=>⟨_,H2,I3,rw',q2⟩
theorem Lo (hu:X.A.units + 1 < cLine) (ho:PE X o td) (he:PE X e ty) (hf:PE X f tx) (m:M2 X o "get" apos e f cpos):PE X (.Call (.Attribute o "get" apos) [e,f] [] cpos) (NA td ty tx):=by
 intro pins s σ H Q I h
 refine wpAny_Call_method m.base m.few m.line PySem.F.plainAttrs_dict PySem.F.slot_dict_get PySem.F.type_dict_get (thn (ho pins s σ H _ I h) fun u s1 ⟨x,H1,I1,rx,a,ex,d,q1⟩=>?_)
 subst ex
 obtain rfl:u=Value.ref a:=rx
 obtain ⟨t1,t2,_⟩:=G4 I1 d
 refine ⟨t1,t2,?_⟩
 rw [m.trees]
 refine Calls.callWith_builtin rfl (Calls.evalArgs_plain (Calls.spliced_cons (thn (he pins s1 σ H1 _ I1 q1) fun iv s2 ⟨y,H2,I2,ry,q2⟩ =>
  Calls.spliced_cons (thn (hf pins s2 σ H2 _ I2 q2) fun fv s3 ⟨z,H3,I3,rz,ov,g,q3⟩=>Calls.spliced_nil ?_))))
 exact M5 hu I3 g ry rz fun w' s4 I4 rw'=>⟨_,H3,I4,rw',q3⟩
end
section
variable {X:Cx} {pins:List (10:)} {σ:St} {H:Hp} {s:Shared} {a:Addr} {kvs:List (Key × V)} {A:Around} {E:Value→Shared→Prop}
end
section
variable {X:Cx} {pins:List (10:)} {σ:St} {H:Hp} {s:Shared} {a:Addr} {y:V} {u:Value} {A:Around} {E:Value→Shared→Prop}
end
end L2
namespace Srt
open PySem PySem.W PyProof.Rows
variable {α β:Type} {O:KeyOrd} {key:Nat→O.α} {n:Nat}
def Ok (O:KeyOrd) (key:Nat→O.α) (n:Nat) (Q:α→Prop):KasT α→Prop
 | .ret a=>Q a
 | .ask i j k=>i < n∧j < n∧Ok O key n Q (k (O.blt (key i) (key j)))
theorem Ok.bind {t:KasT α} {f:α→KasT β} {Q:β→Prop}:Ok O key n (fun a=>Ok O key n Q (f a)) t→Ok O key n Q (t.bind f):=by
 induction t with
 | ret a=>exact id
 | ask i j k ih=>exact fun h=>⟨h.1,h.2.1,ih _ h.2.2⟩
theorem Ok.wp {cmp:Nat→Nat→(Bool→Shared→Prop)→Shared→Prop} {s:Shared} (hc:∀ i j C,i < n→j < n→C (O.blt (key i) (key j)) s→cmp i j C s) {G:α→Shared→Prop} {Q:α→Prop} (hq:∀ a,Q a→G a s) {t:KasT α}:Ok O key n Q t→t.kasWp cmp G s:=by
 induction t with
 | ret a=>exact hq a
 | ask i j k ih=>exact fun h=>hc i j _ h.1 h.2.1 (ih _ h.2.2)
def Pm (n:Nat) (p:Array Nat):Prop:=p.toList.Perm (List.range n)
theorem Pm.size {p:Array Nat} (h:Pm n p):p.size=n:=by
 have:=h.length_eq
 simpa using this
theorem Pm.lt {p:Array Nat} (h:Pm n p) {i:Nat} (hi:i < n):p.getD i 0 < n:=by
 have hs:i < p.size:=by rw [h.size];exact hi
 have e:p.getD i 0=p[i]:=by simp [Array.getD,hs]
 rw [e]
 have:p[i] ∈ p.toList:=by simp
 exact List.mem_range.mp (h.mem_iff.mp this)
theorem Pm.of {p q:Array Nat} (h:Pm n p) (e:q.Perm p):Pm n q:=(Array.perm_iff_toList_perm.mp e).trans h
variable (key) in
def kk (p:Array Nat) (i:Nat):O.α:=key (p.getD i 0)
theorem Yd {p q:Array Nat} {i j:Nat} (h:p[i]?=q[j]?):kk key p i=kk key q j:=by
 unfold kk
 rw [Array.getD_eq_getD_getElem?,Array.getD_eq_getD_getElem?,h]
variable (key) in
def Up (p:Array Nat) (k:Nat):Prop:=∀ i j,i≤j→j < k→O.kle (kk key p i) (kk key p j)
variable (key) in
def Vq (p:Array Nat) (k:Nat):Prop:=∀ i j,i≤j→j < k→O.kle (kk key p j) (kk key p i)
theorem We {p:Array Nat} {i j:Nat} (hj:j≤p.size) (k:Nat):kk key (kas_rev p i j) k=if i≤k∧k < j then kk key p (i + j - 1 - k) else kk key p k:=by
 have e:=getElem?_mirror_all (xs:=p) (i:=i) hj k
 unfold kas_rev
 by_cases h:i≤k∧k < j
 ·rw [if_pos h] at e ⊢;exact Yd e
 ·rw [if_neg h] at e ⊢;exact Yd e
theorem U3 {p:Array Nat} {i j:Nat} (hj:j≤p.size) (heq:∀ k,i≤k→k < j→kk key p k=kk key p (j - 1)) (k:Nat):kk key (kas_rev p i j) k=kk key p k:=by
 rw [We hj]
 by_cases h:i≤k∧k < j
 ·rw [if_pos h,heq _ (11:) (11:),heq k h.1 h.2]
 ·rw [if_neg h]
theorem Pm.rev {p:Array Nat} (h:Pm n p) (i j:Nat):Pm n (kas_rev p i j):=h.of (mirror_perm _ _ _ _)
theorem Lz {p:Array Nat} {m:Nat} (h1:1≤m) (hs:Up key p m) (h:O.kle (kk key p (m - 1)) (kk key p m)):Up key p (m + 1):=fun i j hij hj=>by
 by_cases hjm:j < m
 ·exact hs i j hij hjm
 ·have:j=m:=by lia
  subst this
  by_cases hi:i=j
  ·subst hi;exact KeyOrd.kle_refl _
  ·exact KeyOrd.kle_trans (hs i (j - 1) (11:) (11:)) h
theorem Yg {p:Array Nat} {m:Nat} (h1:1≤m) (hs:Vq key p m) (h:O.kle (kk key p m) (kk key p (m - 1))):Vq key p (m + 1):=fun i j hij hj=>by
 by_cases hjm:j < m
 ·exact hs i j hij hjm
 ·have:j=m:=by lia
  subst this
  by_cases hi:i=j
  ·subst hi;exact KeyOrd.kle_refl _
  ·exact KeyOrd.kle_trans h (hs i (j - 1) (11:) (11:))
theorem Wp {p:Array Nat} (hP:Pm n p) {Q:Nat→Prop}:∀ (f m:Nat),1≤m→m + f≤n→Up key p m→(∀ m',m≤m'→m'≤m + f→Up key p m'→(m'=m + f∨O.klt (kk key p m') (kk key p (m' - 1)))→Q m')→Ok O key n Q (kas_asc p f m)
 | 0,m,_,_,hs,h=>h m (9:) (9:) hs (.inl rfl)
 | f + 1,m,h1,hn,hs,h=>by
  refine ⟨hP.lt (11:),hP.lt (11:),?_⟩
  show Ok O key n Q (if O.blt (kk key p m) (kk key p (m - 1))=true then .ret m else kas_asc p f (m + 1))
  cases hb:O.blt (kk key p m) (kk key p (m - 1)) with
  | true =>
   rw [if_pos rfl]
   exact h m (9:) (11:) hs (.inr hb)
  | false =>
   rw [if_neg Bool.false_ne_true]
   exact Wp hP f (m + 1) (11:) (11:) (Lz h1 hs hb) fun m' a b c d=>h m' (11:) (11:) c (by rcases d with d | d;exact .inl (11:);exact .inr d)
variable (key) in
def NT (p:Array Nat) (m q:Nat):Prop:=q + 1≤m∧∀ i,m - (q + 1)≤i→i < m→kk key p i=kk key p (m - 1)
theorem Um {Q:Array Nat × Nat × Nat→Prop}:∀ (f:Nat) (p:Array Nat) (m q:Nat),Pm n p→1≤m→m + f≤n→Vq key p m→NT key p m q →
 (∀ p' m' q',Pm n p'→m≤m'→m'≤m + f→Vq key p' m'→NT key p' m' q'→Q (p',m',q'))→Ok O key n Q (kas_desc f p m q)
 | 0,p,m,q,hP,_,_,hs,ht,h=>h p m q hP (9:) (9:) hs ht
 | f + 1,p,m,q,hP,h1,hn,hs,ht,h=>by
  have hsz:=hP.size
  refine ⟨hP.lt (11:),hP.lt (11:),?_⟩
  show Ok O key n Q (if O.blt (kk key p m) (kk key p (m - 1))=true then (if q > 0 then kas_desc f (kas_rev p (m - (q + 1)) m) (m + 1) 0 else kas_desc f p (m + 1) 0)
   else .ask (p.getD (m - 1) 0) (p.getD m 0) fun d=>if d=true then .ret (p,m,q) else kas_desc f p (m + 1) (q + 1))
  have one:∀ p':Array Nat,NT key p' (m + 1) 0:=fun p'=>⟨by lia,fun i a b=>by congr 1;lia⟩
  cases hb:O.blt (kk key p m) (kk key p (m - 1)) with
  | true =>
   rw [if_pos rfl]
   have hd:=Yg h1 hs (KeyOrd.kle_of_klt hb)
   by_cases hq:q > 0
   ·rw [if_pos hq]
    have e:=U3 (key:=key) (p:=p) (i:=m - (q + 1)) (j:=m) (11:) ht.2
    refine Um f _ (m + 1) 0 (hP.rev _ _) (11:) (11:) (fun i j a b=>by rw [e,e];exact hd i j a b) (one _) fun p' m' q' a b c d g=>h p' m' q' a (11:) (11:) d g
   ·rw [if_neg hq]
    exact Um f p (m + 1) 0 hP (11:) (11:) hd (one _) fun p' m' q' a b c d g=>h p' m' q' a (11:) (11:) d g
  | false =>
   rw [if_neg Bool.false_ne_true]
   refine ⟨hP.lt (11:),hP.lt (11:),?_⟩
   show Ok O key n Q (if O.blt (kk key p (m - 1)) (kk key p m)=true then .ret (p,m,q) else kas_desc f p (m + 1) (q + 1))
   cases hc:O.blt (kk key p (m - 1)) (kk key p m) with
   | true =>
    rw [if_pos rfl]
    exact h p m q hP (9:) (11:) hs ht
   | false =>
    rw [if_neg Bool.false_ne_true]
    have he:kk key p m=kk key p (m - 1):=KeyOrd.kle_antisymm hc hb
    refine Um f p (m + 1) (q + 1) hP (11:) (11:) (Yg h1 hs hc) ⟨by have:=ht.1;lia,fun i a b=>?_⟩ fun p' m' q' a b c d g=>h p' m' q' a (11:) (11:) d g
    rw [Nat.add_sub_cancel]
    by_cases hi:i=m
    ·rw [hi]
    ·rw [he];exact ht.2 i (11:) (11:)
theorem Vd {p:Array Nat} {m:Nat} (hP:Pm n p) (h1:1≤m) (hm:m≤n) (hs:Vq key p m) {Q:Nat × Array Nat→Prop} (h:∀ m' p',Pm n p'→1≤m'→m'≤n→Up key p' m'→Q (m',p')):Ok O key n Q (kas_tail3 m n p):=by
 have hsz:=hP.size
 refine Ok.bind (Wp (hP.rev 0 m) (n - m) m h1 (11:) (fun i j hij hj=>?_) fun m' a b c _=>h m' _ (hP.rev 0 m) (11:) (11:) c)
 rw [We (11:),We (11:),if_pos (11:),if_pos (11:)]
 exact hs _ _ (11:) (11:)
theorem Y7 {p:Array Nat} {m:Nat} (hP:Pm n p) (h1:1≤m) (hm:m + 1≤n) (hs:Vq key p (m + 1)) {Q:Nat × Array Nat→Prop} (h:∀ m' p',Pm n p'→1≤m'→m'≤n→Up key p' m'→Q (m',p')):Ok O key n Q (kas_descPart m n p):=by
 refine Ok.bind (Um (n - (m + 1)) p (m + 1) 0 hP (11:) (11:) hs ⟨by lia,fun i a b=>by congr 1;lia⟩ fun p' m' q' a b c d g=>?_)
 have hsz:=a.size
 show Ok O key n Q (if q' > 0 then kas_tail3 m' n (kas_rev p' (m' - (q' + 1)) m') else kas_tail3 m' n p')
 by_cases hq:q' > 0
 ·rw [if_pos hq]
  have e:=U3 (key:=key) (p:=p') (i:=m' - (q' + 1)) (j:=m') (11:) g.2
  exact Vd (a.rev _ _) (11:) (11:) (fun i j x y=>by rw [e,e];exact d i j x y) h
 ·rw [if_neg hq]
  exact Vd a (11:) (11:) d h
theorem Gf {p:Array Nat} (hP:Pm n p) (h1:1≤n) {Q:Nat × Array Nat→Prop} (h:∀ m' p',Pm n p'→1≤m'→m'≤n→Up key p' m'→Q (m',p')):Ok O key n Q (kas_count n p):=by
 have hsz:=hP.size
 refine Ok.bind (Wp hP (n - 1) 1 (9:) (11:) (fun i j a b=>?_) fun m a b c d=>?_)
 ·have:i=j:=by lia
  subst this;exact KeyOrd.kle_refl _
 ·show Ok O key n Q (if (m == n)=true then .ret (m,p) else if m > 1 then .ask (p.getD 0 0) (p.getD (m - 1) 0) fun c=>if c=true then .ret (m,p) else kas_descPart m n (kas_rev p 0 m) else kas_descPart m n p)
  by_cases hm:m=n
  ·rw [if_pos (by simpa using hm)]
   exact h m p hP a (11:) c
  ·rw [if_neg (by simpa using hm)]
   have hlt:O.klt (kk key p m) (kk key p (m - 1)):=by
    rcases d with d | d
    ·exact absurd (11:) hm
    ·exact d
   by_cases hg:m > 1
   ·rw [if_pos hg]
    refine ⟨hP.lt (11:),hP.lt (11:),?_⟩
    show Ok O key n Q (if O.blt (kk key p 0) (kk key p (m - 1))=true then .ret (m,p) else kas_descPart m n (kas_rev p 0 m))
    cases hb:O.blt (kk key p 0) (kk key p (m - 1)) with
    | true =>
     rw [if_pos rfl]
     exact h m p hP a (11:) c
    | false =>
     rw [if_neg Bool.false_ne_true]
     have hall:∀ k,0≤k→k < m→kk key p k=kk key p (m - 1):=fun k _ hk =>
      KeyOrd.kle_antisymm (c k (m - 1) (11:) (11:)) (KeyOrd.kle_trans hb (c 0 k (11:) hk))
     have e:=U3 (key:=key) (p:=p) (i:=0) (j:=m) (11:) hall
     refine Y7 (hP.rev _ _) (11:) (11:) (Yg (11:) (fun i j x y=>?_) ?_) h
     ·rw [e,e,hall i (11:) (11:),hall j (11:) y];exact KeyOrd.kle_refl _
     ·rw [e,e];exact KeyOrd.kle_of_klt hlt
   ·rw [if_neg hg]
    have:m=1:=by lia
    subst this
    refine Y7 hP (9:) (11:) (Yg (9:) (fun i j x y=>?_) (KeyOrd.kle_of_klt hlt)) h
    have:i=j:=by lia
    subst this;exact KeyOrd.kle_refl _
theorem UZ {p:Array Nat} {k:Nat} (hP:Pm n p) (hk:k < n) (hs:Up key p k) {Q:Nat→Prop}
 (h:∀ l,l≤k→(∀ i,i < l→O.kle (kk key p i) (kk key p k))→(∀ i,l≤i→i < k→O.klt (kk key p k) (kk key p i))→Q l):∀ (f l r:Nat),l≤r→r≤k→r - l≤f →
  (∀ i,i < l→O.kle (kk key p i) (kk key p k))→(∀ i,r≤i→i < k→O.klt (kk key p k) (kk key p i))→Ok O key n Q (kas_place p k f l r)
 | 0,l,r,a,b,c,d,e=>by
  have:l=r:=by lia
  subst this
  exact h l b d e
 | f + 1,l,r,a,b,c,d,e=>by
  show Ok O key n Q (if l ≥ r then .ret l else .ask (p.getD k 0) (p.getD ((l + r) / 2) 0) fun c=>if c=true then kas_place p k f l ((l + r) / 2) else kas_place p k f ((l + r) / 2 + 1) r)
  by_cases hge:l ≥ r
  ·rw [if_pos hge]
   have:l=r:=by lia
   subst this
   exact h l b d e
  ·rw [if_neg hge]
   refine ⟨hP.lt hk,hP.lt (11:),?_⟩
   show Ok O key n Q (if O.blt (kk key p k) (kk key p ((l + r) / 2))=true then kas_place p k f l ((l + r) / 2) else kas_place p k f ((l + r) / 2 + 1) r)
   cases hb:O.blt (kk key p k) (kk key p ((l + r) / 2)) with
   | true =>
    rw [if_pos rfl]
    exact UZ hP hk hs h f l ((l + r) / 2) (11:) (11:) (11:) d fun i x y=>KeyOrd.klt_of_klt_of_kle hb (hs _ _ x y)
   | false =>
    rw [if_neg Bool.false_ne_true]
    exact UZ hP hk hs h f ((l + r) / 2 + 1) r (11:) b (11:) (fun i x=>KeyOrd.kle_trans (hs i ((l + r) / 2) (11:) (11:)) hb) e
theorem Jk {p:Array Nat} {k d:Nat} (hs:k < p.size) (hd:d≤k) (i:Nat):kk key (bubble p k d) i=if i=k - d then kk key p k else if k - d < i∧i≤k then kk key p (i - 1) else kk key p i:=by
 have e:=getElem?_bubble hs d hd i
 by_cases h1:i=k - d
 ·rw [if_pos h1] at e ⊢;exact Yd e
 ·rw [if_neg h1] at e ⊢
  by_cases h2:k - d < i∧i≤k
  ·rw [if_pos h2] at e ⊢;exact Yd e
  ·rw [if_neg h2] at e ⊢;exact Yd e
theorem GI {Q:Array Nat→Prop}:∀ (f:Nat) (p:Array Nat) (k:Nat),Pm n p→1≤k→k + f=n→Up key p k→(∀ p',Pm n p'→Up key p' n→Q p')→Ok O key n Q (kas_bin f p k)
 | 0,p,k,hP,_,hn,hs,h=>h p hP (by rw [← hn];exact hs)
 | f + 1,p,k,hP,h1,hn,hs,h=>by
  have hsz:=hP.size
  have hk:k < n:=by lia
  refine Ok.bind (UZ hP hk hs (fun l a b c=>?_) k 0 k (Nat.zero_le _) (9:) (11:) (fun i x=>by lia) fun i x y=>by lia)
  refine GI f _ (k + 1) (hP.of (bubble_perm _ _ _)) (11:) (11:) (fun i j hij hj=>?_) h
  rw [Jk (11:) (11:),Jk (11:) (11:),show k - (k - l)=l by lia]
  repeat' split
  all_goals first
   | (exfalso;lia)
   | exact KeyOrd.kle_refl _
   | exact b _ (11:)
   | exact KeyOrd.kle_of_klt (c _ (11:) (11:))
   | exact hs _ _ (11:) (11:)
theorem sort_ok (h1:1≤n) {Q:Array Nat→Prop} (h:∀ p,Pm n p→Up key p n→Q p):Ok O key n Q (kas_sort n):=by
 have hP:Pm n (List.toArray (List.range n)):=List.Perm.refl _
 refine Ok.bind (Gf hP h1 fun m p a b c d=>?_)
 show Ok O key n Q (if m < n then kas_bin (n - max m 1) p (max m 1) else .ret p)
 have hm:max m 1=m:=by lia
 by_cases hlt:m < n
 ·rw [if_pos hlt,hm]
  exact GI (n - m) p m a b (11:) d h
 ·rw [if_neg hlt]
  have:m=n:=by lia
  subst this
  exact h p a d
end Srt
namespace L2
open PySem PySem.Spec PyProof.Rows PySem.W
section
variable {prog:Program} {w:World} {A:Around} {E:Value→Shared→Prop} {s:Shared}
end
section
variable {X:Cx}
end
end L2
namespace L2
open PySem PySem.Spec PyProof.Rows PySem.W
section
variable {prog:Program} {w:World} {A:Around} {E:Value→Shared→Prop} {s:Shared}
theorem Gq {a:Addr} {vs:List Value} {n:Nat} {P:PySem.Fin→Shared→Prop} (O:KeyOrd) (key:Nat→O.α) (κ:SortKind) (ho:s.heap.get? a=some (seqObj "list" vs.toArray n)) (h64:vs.length < 64)
 (hk:∀ (s':Shared) (Q:SortKind→Shared→Prop),(∀ b o,b≠a→s.heap.get? b=some o→s'.heap.get? b=some o)→2≤vs.length→Q κ s'→wpAny (26:) A (keyKind' vs.toArray) Q E s')
 (hc:∀ (s':Shared) (i j:Nat) (C:Bool→Shared→Prop),(∀ b o,b≠a→s.heap.get? b=some o→s'.heap.get? b=some o)→i < vs.length→j < vs.length→C (O.blt (key i) (key j)) s'→wpAny (26:) A (keyLt' κ (vs.getD i Value.none) (vs.getD j Value.none)) C (fun _ _=>False) s')
 (h:∀ p:Array Nat,Srt.Pm vs.length p→Srt.Up (O:=O) key p vs.length→P (.done (.ret .none)) { s with heap:=sortedHeap s.heap a vs (p.toList.map fun i=>vs.getD i Value.none).toArray }) :
 wpAny (26:) A (Builtin.«list.sort» ⟨[.ref a],[]⟩) P E s:=by
 have hal:a < s.heap.objs.size:=Heap.lt_size ho
 rw [list_sort_plain]
 refine wpAny_bind (listItems_at ho rfl ?_)
 refine wpAny_bind (listUpdate_at ho rfl ?_ (by rw [List.size_toArray,sizeLine_eq];lia) (Nat.zero_le _))
 obtain ⟨e1,ho1⟩ : ∃ e1,(s.heap.update a (Obj.mapSeq fun _=>(#[]:Array Value))).get? a=some (seqObj "list" #[] e1):=⟨_,get?_update_seq ho fun _=>#[]⟩
 refine wpAny_bind (seqEpoch_at ho1 rfl (wpAny_bind (wpAny_newTuple ?_ (by show vs.length≤_;rw [sizeLine_eq];lia))))
 refine wpAny_bind (wpAny_newList (wpAny_holding ?_) (Nat.zero_le _))
 have keep:∀ b o,b≠a→s.heap.get? b=some o→((13:).push (seqObj "list" #[] 0)).get? b=some o:=fun b o hb e =>
  Heap.get?_push_of_some _ (Heap.get?_push_of_some _ ((Heap.get?_update_ne _ _ _ _ hb).trans e))
 have ho6:((13:).push (seqObj "list" #[] 0)).get? a=some (seqObj "list" #[] e1):=Heap.get?_push_of_some _ (Heap.get?_push_of_some _ ho1)
 show wpAny (26:) A _ P E { s with heap:=(13:).push (seqObj "list" #[] 0) }
 dsimp only
 have hz:vs.toArray.size=vs.length:=List.size_toArray
 by_cases h2:vs.toArray.size < 2
 ·rw [if_pos h2,if_pos h2]
  refine wpAny_bind (wpAny_pure ?_)
  rw [StateT.run_pure]
  refine wpAny_bind (wpAny_pure ?_)
  dsimp only
  refine wpAny_bind (seqEpoch_at ho6 rfl ?_)
  have e2:(arrOf (SortSt.mk' general' (vs.toArray.zip vs.toArray) #[] 7 none)).map (·.2)=vs.toArray:=by
   show (vs.toArray.zip vs.toArray).map (·.2)=vs.toArray
   apply Array.toList_inj.mp
   rw [Array.toList_map,Array.toList_zip]
   exact List.map_snd_zip (9:)
  rw [e2]
  refine wpAny_bind (listUpdate_at ho6 rfl ?_ (hsz2:=by show vs.toArray.size≤_;rw [sizeLine_eq];lia))
  simp only [bne_self_eq_false,Bool.false_eq_true,if_false]
  have:=h (List.range vs.length).toArray (List.Perm.refl _) (fun i j hij hj=>by
   have:i=j:=by lia
   subst this
   exact O.irrefl _)
  have e3:((List.range vs.length).toArray.toList.map fun i=>vs.getD i Value.none)=vs:=by
   apply List.ext_getElem (27:)
   intro i a b
   simp at a
   simp [a]
  rw [e3] at this
  exact wpAny_pure this
 ·rw [if_neg h2,if_neg h2]
  refine wpAny_bind ?_
  refine hk { s with heap:=(13:).push (seqObj "list" #[] 0) } _ keep (11:) ?_
  refine wpAny_bind (wpAny_mono (kat_run (Q:=fun st' s'=>∃ p:Array Nat,Srt.Pm vs.length p∧Srt.Up (O:=O) key p vs.length∧(arrOf st').map (·.2)=(p.toList.map fun i=>vs.getD i Value.none).toArray∧failedOf st'=none ∧
   s'={ s with heap:=(13:).push (seqObj "list" #[] 0) })
   (G:=fun p s'=>Srt.Pm vs.length p∧Srt.Up (O:=O) key p vs.length∧s'={ s with heap:=(13:).push (seqObj "list" #[] 0) })
   (vs:=vs) (ks:=vs) rfl (11:) (11:) (fun p st' s' hsz har hfl hg=>?_) ?_) (fun r s' hq=>?_) fun _ _ e=>e)
  ·obtain ⟨hP,hU,es⟩:=hg
   exact ⟨p,hP,hU,kat_snds rfl har,hfl,es⟩
  ·refine Srt.Ok.wp (O:=O) (key:=key) (n:=vs.length) (fun i j C hi hj hC=>?_) (Q:=fun p=>Srt.Pm vs.length p∧Srt.Up (O:=O) key p vs.length) (fun p hp=>⟨hp.1,hp.2,rfl⟩) (Srt.sort_ok (11:) fun p a b=>⟨a,b⟩)
   exact hc { s with heap:=(13:).push (seqObj "list" #[] 0) } i j C keep hi hj hC
  ·obtain ⟨p,o1,o2,o3,o4,rfl⟩:=hq
   obtain ⟨⟨⟩,st'⟩:=r
   dsimp only at o3 o4 ⊢
   refine wpAny_bind (seqEpoch_at ho6 rfl ?_)
   rw [o3]
   refine wpAny_bind (listUpdate_at ho6 rfl ?_ (hsz2:=by show (p.toList.map fun i=>vs.getD i Value.none).toArray.size≤_;rw [List.size_toArray,List.length_map,o1.length_eq,List.length_range,sizeLine_eq];lia))
   rw [o4]
   simp only [bne_self_eq_false,Bool.false_eq_true,if_false]
   exact wpAny_pure (h p o1 o2)
theorem Ww {l:Addr} {vs:List Value} {Q:Value→Shared→Prop} (O:KeyOrd) (key:Nat→O.α) (κ:SortKind) (hl:s.heap.IsList l vs.toArray) (h64:vs.length < 64)
 (hk:∀ (s':Shared) (E':Value→Shared→Prop) (Q:SortKind→Shared→Prop),(∀ b o,s.heap.get? b=some o→s'.heap.get? b=some o)→2≤vs.length→Q κ s'→wpAny (26:) A.in1.in1 (keyKind' vs.toArray) Q E' s')
 (hc:∀ (s':Shared) (i j:Nat) (C:Bool→Shared→Prop),(∀ b o,s.heap.get? b=some o→s'.heap.get? b=some o)→i < vs.length→j < vs.length→C (O.blt (key i) (key j)) s'→wpAny (26:) A.in1.in1 (keyLt' κ (vs.getD i Value.none) (vs.getD j Value.none)) C (fun _ _=>False) s')
 (h:∀ p:Array Nat,Srt.Pm vs.length p→Srt.Up (O:=O) key p vs.length→Q (.ref (22:)) { s with heap:=sortedAll s.heap vs (p.toList.map fun i=>vs.getD i Value.none).toArray }) :
 wpAny (26:) A (call (.builtin "sorted") [.ref l]) Q E s:=by
 refine Calls.call_function_entry kind_sorted plain_sorted entry_sorted (args_sorted1 _) ?_
 unfold Builtin.«sorted»
 refine wpAny_bind (m:=checkCount "sorted" 1 1 _) (wpAny_pure ?_)
 refine wpAny_bind (collect_list hl ?_ (by rw [sizeLine_eq];lia))
 refine wpAny_bind (wpAny_newList ?_ (by rw [sizeLine_eq];lia))
 have hsz:((s.heap.push (seqObj "list" #[] 0)).update s.heap.objs.size (Obj.mapSeq (· ++ vs.toArray))).objs.size=s.heap.objs.size + 1:=by rw [Heap.size_update,size_push']
 have hoL:(((s.heap.push (seqObj "list" #[] 0)).update s.heap.objs.size (Obj.mapSeq (· ++ vs.toArray))).push (seqObj "list" vs.toArray 0)).get? (22:)=some (seqObj "list" vs.toArray 0):=by
  rw [← hsz];exact Heap.get?_push_size _ rfl
 have keep:∀ b o,s.heap.get? b=some o→(((s.heap.push (seqObj "list" #[] 0)).update s.heap.objs.size (Obj.mapSeq (· ++ vs.toArray))).push (seqObj "list" vs.toArray 0)).get? b=some o:=fun b o e=>by
  have hlt:b < s.heap.objs.size:=Heap.lt_size e
  exact Heap.get?_push_of_some _ ((Heap.get?_update_ne _ _ _ _ (Nat.ne_of_lt hlt)).trans (Heap.get?_push_of_some _ e))
 show wpAny _ _ _ _ _ { s with heap:=((s.heap.push (seqObj "list" #[] 0)).update s.heap.objs.size (Obj.mapSeq (· ++ vs.toArray))).push (seqObj "list" vs.toArray 0) }
 rw [hsz]
 refine wpAny_bind (wpAny_holding (wpAny_call_entry slot_list_sort ⟨_,hoL,rfl⟩ entry_list_sort ?_ (args_list_sort _)))
 have old:∀ (s':Shared),(∀ b o,b≠s.heap.objs.size + 1→(((s.heap.push (seqObj "list" #[] 0)).update s.heap.objs.size (Obj.mapSeq (· ++ vs.toArray))).push (seqObj "list" vs.toArray 0)).get? b=some o→s'.heap.get? b=some o)→∀ b o,s.heap.get? b=some o→s'.heap.get? b=some o:=fun s' h b o e=>by
  have hlt:b < s.heap.objs.size:=Heap.lt_size e
  exact h b o (fun z=>by rw [z] at hlt;exact absurd hlt (Nat.not_lt.mpr (Nat.le_succ _))) (keep b o e)
 refine Gq (A:=A.in1.in1) O key κ hoL h64 (fun s' Q' hs h2 hq=>hk s' _ Q' (old s' hs) h2 hq) (fun s' i j C hs hi hj hC=>hc s' i j C (old s' hs) hi hj hC) fun p o1 o2=>⟨_,rfl,wpAny_pure ⟨_,rfl,h p o1 o2⟩⟩
theorem LH {x y:Addr} {fx sx fy sy:Value} {b:Bool} {C:Bool→Shared→Prop} (hx:s.heap.IsTuple x [fx,sx].toArray) (hy:s.heap.IsTuple y [fy,sy].toArray)
 (hne:x≠y→SeqAt.EqAt A s fx fy false∧wpAny (26:) A (oneLt' b fx fy) C (fun _ _=>False) s) (heq:x=y→SeqAt.EqAt A s fx fx true∧SeqAt.EqAt A s sx sx true∧C false s) :
 wpAny (26:) A (keyLt' (tuples' b) (.ref x) (.ref y)) C E s:=by
 obtain ⟨ox,gx,cx,nx,dx⟩:=hx
 obtain ⟨oy,gy,cy,ny,dy⟩:=hy
 refine kat_lt gx dx gy dy ?_
 by_cases h:x=y
 ·subst h
  obtain rfl:=Option.some.inj (gx.symm.trans gy)
  rw [dx] at dy
  injection dy with e1 e2
  have e3:[fx,sx]=[fy,sy]:=by simpa using congrArg Array.toList e1
  injection e3 with e4 e5
  injection e5 with e6 e7
  subst e4 e6
  obtain ⟨q1,q2,q3⟩:=heq rfl
  show KatLex prog w A b _ C [(fx,fx),(sx,sx)] 0 s
  refine kat_cons (q1 _ _ _ _ (kat_yes (kat_cons (q2 _ _ _ _ (kat_yes (kat_nil ?_))))))
  exact q3
 ·obtain ⟨q1,q2⟩:=hne h
  show KatLex prog w A b _ C [(fx,fy),(sx,sy)] 0 s
  refine kat_cons (q1 _ _ _ _ (kat_no ?_))
  have:(b && (0:Nat) == 0)=b:=by simp
  rw [this]
  exact q2
end
theorem MD {α:Type} {O:KeyOrd} {ts:List α} {d:α} {key:α→O.α} {p:Array Nat} (hP:Srt.Pm ts.length p) (hU:Srt.Up (O:=O) (fun i=>key (ts.getD i d)) p ts.length) :
 (p.toList.map fun i=>ts.getD i d).Perm ts∧(p.toList.map fun i=>ts.getD i d).Pairwise fun x y=>O.blt (key y) (key x)=false:=by
 constructor
 ·have h1:=List.Perm.map (fun i=>ts.getD i d) hP
  have e:(List.range ts.length).map (fun i=>ts.getD i d)=ts:=by
   apply List.ext_getElem (27:)
   intro i a b
   simp at a
   simp [a]
  rwa [e] at h1
 ·rw [List.pairwise_iff_getElem]
  intro i j hi hj hij
  have hsz:=hP.size
  simp only [List.length_map,Array.length_toList] at hi hj
  have:=hU i j (Nat.le_of_lt hij) (11:)
  unfold KeyOrd.kle Srt.kk at this
  have ei:p.getD i 0=p[i]:=by simp [Array.getD,hi]
  have ej:p.getD j 0=p[j]:=by simp [Array.getD,hj]
  rw [ei,ej] at this
  simpa using this
theorem IsTuple.keeps {h h':Heap} {a:Addr} {xs:Array Value} (k:∀ b o,h.get? b=some o→h'.get? b=some o) (x:h.IsTuple a xs):h'.IsTuple a xs:=by
 obtain ⟨o,e,r⟩:=x
 exact ⟨o,k _ _ e,r⟩
section
variable {prog:Program} {w:World} {A:Around} {E:Value→Shared→Prop} {s:Shared}
end
section
variable {X:Cx}
theorem YV {α:Type} {f:α→Addr}:∀ {ts:List α} {us:List Value},Vals (ts.map fun t=>V.ref (f t)) us→us=ts.map fun t=>Value.ref (f t)
 | [],_,.nil=>rfl
 | t :: ts,_,.cons r rr=>by
  have e:_=Value.ref (f t):=r
  rw [List.map_cons,← YV rr,← e]
theorem Jg {α:Type} {f:α→Addr}:∀ ts:List α,Vals (ts.map fun t=>V.ref (f t)) (ts.map fun t=>Value.ref (f t))
 | []=>.nil
 | t :: ts=>.cons rfl (Jg ts)
end
end L2
namespace L2
open PySem PySem.Spec PyProof.Rows
theorem Za:plainId "dict.update.loop" = true:=by decide +kernel
theorem Yb:entryFor table "dict.update.loop" = some Builtin.«dict.update.loop»:=entryFor_of_tree (by kernel_rfl)
theorem US:typeLookup (.type "list") "keys" = pure none:=by rw [typeLookup_type,builtinLookup_eq_fast];kernel_rfl
section
variable {prog:Program} {w:World} {A:Around} {E:Value→Shared→Prop} {s:Shared}
theorem Vr {a:Addr} {xs:Array Value} {k:Nat} {sl:Array (Option Value)} {Q:Option Value→Shared→Prop} (hx:s.heap.get? a=some { cls:=.type "list", dict:=none,data:=.seq xs k,slots:=sl }) (hA:A.handled=none)
 (h:∀ h' tk,(∀ b o,s.heap.get? b=some o→h'.get? b=some o)→Q none { s with heap:=h',toks:=tk }):wpAny (26:) A (getAttr? (.ref a) "keys") Q E s:=by
 obtain ⟨hp,g,d,tk,os⟩:=s
 have hT:∀ tk',(⟨hp,g,d,tk',os⟩ : Shared).TypeIs (.ref a) "list" := fun _=>⟨_,hx,rfl⟩
 have f1:=sub_AttributeError
 have f3:=F.slot_list_getattribute.lookup
 have f4:=F.slot_list_getattribute.bind (.ref a)
 have f5:=am_list_getattr_none
 unfold getAttr? getAttrBy? getAttrBy
 repeat (any_goals (first | assumption | exact hT _ | ((with_reducible show wpAny _ _ (call (Value.builtin "list.__getattribute__") _ _) _ _ _);refine call_meets F.slot_list_getattribute (hT _) am_entry_list_getattribute (F.args_list_getattribute_2 _ _) (meets_getattribute_miss_list a xs k sl "keys" _ US (0:)) ⟨hx,hA,fun h' tk' e hx'=>?_⟩) | wp_step))
 obtain ⟨t',u',he⟩:=hx'.there
 show wpAny _ _ (getattributeRaised _ _ _ _ _ _ _) _ _ _
 unfold getattributeRaised
 repeat (any_goals (first | assumption | wp_step))
 exact h _ _ hx'.keeps
theorem UQ {h:Heap} {a b:Addr} {o u:Obj} (ha:h.get? a=some o) (hb:h.get? b=some u) (hc:o.cls≠u.cls):a≠b:=fun e=>by
 subst e
 rw [ha] at hb
 exact hc (congrArg Obj.cls (Option.some.inj hb))
def ZH (kvs:List (Key × Value)):List (Key × Value)→List (Key × Value)
 | []=>kvs
 | p :: r=>ZH (stored kvs p.1 p.2) r
theorem Xl {R:Result→Shared→Prop} {l d it:Addr} {items:Array Value} (hA:A.handled=none) (hli:l≠it) (hd0:(d == sysModules)=false):∀ (ps:List (Key × Value)) (i:Nat) (s:Shared) (kvs:List (Key × Value)),i + ps.length=items.size→s.heap.IsListIter it l i→s.heap.IsList l items→s.heap.DictOf (QA prog w) d kvs→kvs.length + ps.length≤sizeLine →
 (∀ (j:Nat) (q:Key × Value),ps[j]?=some q→∃ p u,items[i + j]?=some (.ref p)∧(QA prog w).is q.1 u=true∧s.heap.IsTuple p #[u,q.2]) →
 (∀ h' tk,h'.DictOf (QA prog w) d (ZH kvs ps)→(∀ b o,b≠it→b≠d→s.heap.get? b=some o→h'.get? b=some o)→R (.ok (.ret .none)) { s with heap:=h',toks:=tk }) →
 codeAny (26:) A (.builtin "dict.update.loop" ⟨[.ref d,.ref it,rawInt (i:Int),.none],[]⟩) R s
 | [],i,s,kvs,hk,hit,hL,hD,hz,hp,hR=>by
  have W:=Walks.list (prog:=prog) (w:=w) (A:=A.in1) hA it l hli items
  have hin:i=items.size:=by simpa using hk
  subst hin
  refine codeAny_builtin Yb ?_
  rw [Around.under_plainId Za _]
  show wpAny _ A.in1 (pyNext (.ref it) >>= _) _ _ s
  refine wpAny_bind (W.done s _ _ ⟨hit,hL⟩ fun h' tk hk'=>?_)
  show wpAny _ A.in1 (Builtin.Dict.addKeywords d [] >>= _) _ _ _
  refine wpAny_bind (wpAny_pure (wpAny_pure ?_))
  have hdi:d≠it:=by
   obtain ⟨o,es,ep,ho,hc,_⟩:=hD
   obtain ⟨o2,ho2,hc2,_⟩:=hit
   exact UQ ho ho2 (by rw [hc.1,hc2];intro z;injection z with z;exact absurd z (18:))
  exact hR h' tk (hD.extBut (b:=it) (fun a o hne e=>hk' a o (by simpa using hne) e) hdi) (fun b o h1 _ e=>hk' b o (by simpa using h1) e)
 | q :: ps,i,s,kvs,hk,hit,hL,hD,hz,hp,hR=>by
  have W:=Walks.list (prog:=prog) (w:=w) (A:=A.in1) hA it l hli items
  obtain ⟨p,u,hip,hku,hpt⟩:=hp 0 q rfl
  rw [Nat.add_zero] at hip
  have hlt:i < items.size:=by rw [List.length_cons] at hk;lia
  have hdi:d≠it:=by
   obtain ⟨o,es,ep,ho,hc,_⟩:=hD
   obtain ⟨o2,ho2,hc2,_⟩:=hit
   exact UQ ho ho2 (by rw [hc.1,hc2];intro z;injection z with z;exact absurd z (18:))
  have hdl:d≠l:=by
   obtain ⟨o,es,ep,ho,hc,_⟩:=hD
   obtain ⟨o2,ho2,hc2,_⟩:=hL
   exact UQ ho ho2 (by rw [hc.1,hc2];intro z;injection z with z;exact absurd z (18:))
  have hpi:∀ {p:Addr} {xs:Array Value},s.heap.IsTuple p xs→p≠it∧p≠d:=fun {p xs} ht=>by
   obtain ⟨o,ho,hc,_⟩:=ht
   obtain ⟨o2,ho2,hc2,_⟩:=id hit
   obtain ⟨o3,es,ep,ho3,hc3,_⟩:=id hD
   exact ⟨UQ ho ho2 (by rw [hc,hc2];intro z;injection z with z;exact absurd z (18:)),UQ ho ho3 (by rw [hc,hc3.1];intro z;injection z with z;exact absurd z (18:))⟩
  refine codeAny_builtin Yb ?_
  rw [Around.under_plainId Za _]
  show wpAny _ A.in1 (pyNext (.ref it) >>= _) _ _ s
  refine wpAny_bind (W.item i s _ _ hlt ⟨hit,hL⟩ fun v h' tk hP hst' hk'=>?_)
  obtain rfl:v=.ref p:=Option.some.inj ((show items[i]?=some v from hP).symm.trans hip)
  have hk2:∀ b o,b≠it→s.heap.get? b=some o→h'.get? b=some o:=fun b o hb e=>hk' b o (by simpa using hb) e
  have hpt':h'.IsTuple p #[u,q.2]:=by
   obtain ⟨o,ho,r⟩:=id hpt
   exact ⟨o,hk2 _ _ (hpi hpt).1 ho,r⟩
  obtain ⟨o,ho,hc,n,hdat⟩:=id hpt'
  refine wpAny_bind (wpAny_holding ?_)
  refine wpAny_bind (wpAny_tryCatch ?_)
  unfold Builtin.Dict.pairItems
  refine wpAny_bind (wpAny_typeOf (T:="tuple") (s:={ s with heap:=h',toks:=tk }) ⟨o,ho,hc⟩ ?_)
  rw [if_pos (0:)]
  refine wpAny_bind ?_
  show wpAny _ A.in1 (load p >>= _) _ _ _
  refine wpAny_bind (wpAny_load ho ?_)
  rw [hdat]
  refine wpAny_pure (wpAny_pure ?_)
  have hD':h'.DictOf (QA prog w) d kvs:=hD.extBut (b:=it) (fun a o hne e=>hk2 a o hne e) hdi
  refine wpAny_holding (wpAny_dictSet_pairs (s:={ s with heap:=h',toks:=tk }) hku hD' (fun h'' hD'' hs=>?_) (by rw [List.length_cons] at hz;lia))
  have hit2:h''.IsListIter it l (i + 1):=by
   obtain ⟨o,ho,r⟩:=hst'.1
   exact ⟨o,(hs.2 it (Ne.symm hdi)).trans ho,r⟩
  have hL2:h''.IsList l items:=by
   obtain ⟨o,ho,r⟩:=hst'.2
   exact ⟨o,(hs.2 l (Ne.symm hdl)).trans ho,r⟩
  have keep2:∀ b o,b≠it→b≠d→s.heap.get? b=some o→h''.get? b=some o:=fun b o h1 h2 e=>(hs.2 b h2).trans (hk2 b o h1 e)
  have hlen:(stored kvs q.1 q.2).length≤kvs.length + 1:=by
   unfold stored
   split
   ·rw [List.length_map];lia
   ·rw [List.length_append];simp
  refine wpAny_pure ⟨plainId_quiet Za _,?_⟩
  refine Xl hA hli hd0 ps (i + 1) _ (stored kvs q.1 q.2) (by rw [List.length_cons] at hk;lia) hit2 hL2 hD'' (by rw [List.length_cons] at hz;lia) (fun j r hj=>?_) fun h3 tk3 hD3 hk3=>?_
  ·obtain ⟨p',u',e1,e2,e3⟩:=hp (j + 1) r (by simpa using hj)
   refine ⟨p',u',by rw [← e1];congr 1;lia,e2,?_⟩
   obtain ⟨o,ho,rr⟩:=id e3
   exact ⟨o,keep2 _ _ (hpi e3).1 (hpi e3).2 ho,rr⟩
  ·exact hR h3 tk3 hD3 fun b o h1 h2 e=>hk3 b o h1 h2 (keep2 b o h1 h2 e)
theorem Wg {l:Addr} {items:Array Value} {ps:List (Key × Value)} {Q:Value→Shared→Prop} (hA:A.handled=none) (hb:sysModules < s.heap.objs.size) {ol:Obj} {nl:Nat} (hl:s.heap.get? l=some ol) (hlc:ol.cls=.type "list") (hld:ol.dict=none) (hlt:ol.data=.seq items nl) (hz:ps.length≤sizeLine) (hn:ps.length=items.size)
 (hp:∀ (j:Nat) (q:Key × Value),ps[j]?=some q→∃ p u,items[j]?=some (.ref p)∧(QA prog w).is q.1 u=true∧s.heap.IsTuple p #[u,q.2])
 (h:∀ h' tk,h'.DictOf (QA prog w) s.heap.objs.size (ZH [] ps)→(∀ b o,s.heap.get? b=some o→h'.get? b=some o)→Q (.ref s.heap.objs.size) { s with heap:=h',toks:=tk }) :
 wpAny (26:) A (call (.type "dict") [.ref l]) Q E s:=by
 refine callType_codes (Q₁:=fun obj s₁=>obj=.ref s.heap.objs.size∧s₁={ s with heap:=s.heap.push { cls:=.type "dict", data:=.dict #[] } }) F.kt_called_dict (F.kt_typeCall_dict_1 _) F.entry_dict_init (kt_code_dict_new _ ⟨rfl,rfl⟩) ?_
 rintro obj s₁ ⟨rfl,rfl⟩
 have hnew:(s.heap.push { cls:=.type "dict", data:=.dict #[] }).DictOf (QA prog w) s.heap.objs.size []:=Heap.DictOf.new s.heap
 have hl1:(s.heap.push { cls:=.type "dict", data:=.dict #[] }).get? l=some ol:=Heap.get?_push_of_some _ hl
 have hT:({ s with heap:=s.heap.push { cls:=.type "dict", data:=.dict #[] } }:Shared).TypeIs (.ref l) "list" := ⟨_,hl1,hlc⟩
 obtain ⟨c1,d1,t1,s1⟩:=ol
 simp only at hlc hld hlt
 subst hlc hld hlt
 refine ⟨hnew.typeIs,F.args_dict_init_2 _ _,?_⟩
 unfold Builtin.«dict.__init__»
 refine wpAny_bind ?_
 unfold Builtin.Dict.selfAndRest
 refine wpAny_bind (wpAny_notOrdered_dict hnew.typeIs ?_)
 show wpAny _ _ (pure (s.heap.objs.size,[Value.ref l])) _ _ _
 refine wpAny_pure ?_
 show wpAny _ _ (Builtin.Dict.updateFrom "dict.__init__" s.heap.objs.size (.ref l) [] .none) _ _ _
 unfold Builtin.Dict.updateFrom
 refine wpAny_bind (wpAny_typeOf hT ?_)
 rw [if_pos (18:)]
 refine wpAny_bind (Vr hl1 hA fun h2 tk2 hk2=>?_)
 simp only [Option.isNone_none,if_true]
 refine wpAny_bind (wpAny_rule ?_)
 have hL2:h2.IsList l items:=⟨_,hk2 _ _ hl1,rfl,nl,rfl⟩
 refine wpAny_bind (wpAny_pyIter_list (s:={ s with heap:=h2,toks:=tk2 }) hL2 ?_)
 have hlt2:l < h2.objs.size:=Heap.lt_size (hk2 _ _ hl1)
 have hsz2:s.heap.objs.size < h2.objs.size:=by
  obtain ⟨o,es,ep,ho,_⟩:=id hnew
  exact Heap.lt_size (hk2 _ _ ho)
 have hD2:h2.DictOf (QA prog w) s.heap.objs.size []:=by
  obtain ⟨o,es,ep,ho,r⟩:=id hnew
  exact ⟨o,es,ep,hk2 _ _ ho,r⟩
 have old:∀ b o,s.heap.get? b=some o→h2.get? b=some o:=fun b o e=>hk2 b o (Heap.get?_push_of_some _ e)
 refine wpAny_pure ⟨plainId_quiet Za _,Xl (A:=A.in1) (it:=h2.objs.size) (l:=l) (items:=items) hA (Nat.ne_of_lt hlt2) (beq_eq_false_iff_ne.mpr (Ne.symm (Nat.ne_of_lt hb))) ps 0 _ [] (by simpa using hn) ⟨_,Heap.get?_push_size _ rfl,rfl,rfl⟩ (hL2.push _) (hD2.push _) (by simpa using hz) (fun j q hq=>?_) fun h' tk hD hk=>⟨rfl,?_⟩⟩
 ·obtain ⟨p,u,e1,e2,o,ho,r⟩:=hp j q hq
  exact ⟨p,u,by rw [Nat.zero_add];exact e1,e2,o,Heap.get?_push_of_some _ (old _ _ ho),r⟩
 ·refine h h' tk hD fun b o e=>hk b o ?_ ?_ (Heap.get?_push_of_some _ (old b o e))
  ·exact Nat.ne_of_lt (Heap.lt_size (old b o e))
  ·exact Nat.ne_of_lt (Heap.lt_size e)
end
theorem WS {kvs:List (Key × Value)} {k:Key} {v:Value} (h:k ∉ kvs.map (·.1)):stored kvs k v=kvs ++ [(k,v)]:=by
 unfold stored
 rw [if_neg]
 intro z
 obtain ⟨kv,h1,h2⟩:=List.any_eq_true.mp z
 exact h (List.mem_map.mpr ⟨kv,h1,of_decide_eq_true h2⟩)
theorem YK:∀ (ps kvs:List (Key × Value)),((kvs ++ ps).map (·.1)).Nodup→ZH kvs ps=kvs ++ ps
 | [],kvs,_=>by simp [ZH]
 | p :: r,kvs,h=>by
  have hn:p.1 ∉ kvs.map (·.1):=fun hm=>by
   rw [List.map_append,List.nodup_append] at h
   exact h.2.2 _ hm _ (27:) rfl
  show ZH (stored kvs p.1 p.2) r=_
  rw [WS hn]
  have e:kvs ++ [(p.1,p.2)] ++ r=kvs ++ p :: r:=by simp
  rw [YK r _ (by rw [e];exact h),e]
theorem Xp {X:Cx} {pins:List (10:)} {σ:St} {H:Hp} {s:Shared} (I:Inv X pins σ H s):∀ ts:List (Addr × Str × V),(∀ t ∈ ts,SqT X.K H t.1 [.str t.2.1,t.2.2]) →
 ∃ ps:List (Key × Value),KV (ts.map fun t=>(54:)) ps∧∀ (j:Nat) (q:Key × Value),ps[j]?=some q→∃ p u,(ts.map fun t=>Value.ref t.1)[j]?=some (.ref p)∧(QA X.prog X.w).is q.1 u=true∧s.heap.IsTuple p #[u,q.2]
 | [],_=>⟨[],.nil,fun j q h=>by simp at h⟩
 | t :: r,h=>by
  obtain ⟨ps,h1,h2⟩:=Xp I r fun u hu=>h u (47:)
  obtain ⟨its,rv,p,_⟩:=I.tuple (h t List.mem_cons_self)
  obtain ⟨u,v,rfl,ru,rv'⟩:=rv.two
  refine ⟨(Sum.inr t.2.1,v) :: ps,.cons ⟨rfl,rv'⟩ h1,fun j q hj=>?_⟩
  cases j with
  | zero =>
   have:q=(Sum.inr t.2.1,v):=by simpa using hj.symm
   subst this
   exact ⟨t.1,u,rfl,UA (k:=Sum.inr t.2.1) ru,p⟩
  | succ j =>
   obtain ⟨p',u',e1,e2,e3⟩:=h2 j q (by simpa using hj)
   exact ⟨p',u',by simpa using e1,e2,e3⟩
theorem KV.keys' {kvs:List (Key × V)} {ps:List (Key × Value)} (r:KV kvs ps):ps.map (·.1)=kvs.map (·.1):=by
 induction r with
 | nil=>rfl
 | cons h _ ih=>rw [List.map_cons,List.map_cons,ih,h.1]
section
variable {X:Cx}
theorem QZ (hc:X.calm=true):Ym X (.type "dict") (fun xs H Q=>∃ (l:Addr) (ts:List (Addr × Str × V)),xs=[.ref l]∧SqL X.K H l (ts.map fun t=>V.ref t.1)∧(∀ t ∈ ts,SqT X.K H t.1 [.str t.2.1,t.2.2])∧(ts.map fun t=>t.2.1).Nodup∧ts.length≤1000 ∧
 ∀ d,H d=none→Q (.ref d) (upd H d (.dK (ts.map fun t=>(54:))))):=by
 intro pins s σ H xs us Q I r h
 obtain ⟨l,ts,rfl,hl,ht,hnd,hz,q⟩:=h
 cases r with
 | cons r rr =>
  cases rr
  obtain rfl:_=Value.ref l:=r
  obtain ⟨its,rv,⟨o,n,e,c,dn,dt⟩,_⟩:=I.list hl
  obtain rfl:=YV rv
  obtain ⟨ps,hkv,hps⟩:=Xp I ts ht
  have hlen:ps.length=ts.length:=by have:=hkv.length;rw [List.length_map] at this;exact this.symm
  have hz1:ps.length≤sizeLine:=by rw [hlen,sizeLine_eq];lia
  refine Wg (I.ok.hd hc) I.big e c dn dt hz1 (by rw [List.size_toArray,List.length_map];exact hlen) (fun j q hq=>by simpa using hps j q hq) fun h' tk hD hk=>?_
  have hk1:((([]:List (Key × Value)) ++ ps).map (·.1)).Nodup:=by
   rw [List.nil_append,KV.keys' hkv,List.map_map]
   have e2:(ts.map ((fun x:Key × V=>x.1) ∘ fun t=>(54:)))=(ts.map fun t=>t.2.1).map (Sum.inr:Str→Key):=by rw [List.map_map];rfl
   rw [e2]
   exact List.Pairwise.map _ (fun a b hne z=>hne (by injection z)) hnd
  rw [YK ps [] hk1,List.nil_append] at hD
  have hfr:=I.hok.fresh (Nat.le_refl s.heap.objs.size)
  refine ⟨.ref s.heap.objs.size,_,I.laid (a:=s.heap.objs.size) (o:=.dK (ts.map fun t=>(54:))) (t':=tk) hk (9:) (GM (by rw [List.length_map,sizeLine_eq];lia) (beq_eq_false_iff_ne.mpr (Ne.symm (Nat.ne_of_lt I.big))) hkv hD),rfl,q _ hfr⟩
end
end L2
namespace L2
open PySem PySem.Spec PyProof.Rows
section
variable {X:Cx} {tg:Expr}
end
end L2
namespace TM
inductive Tree (α:Type) where
 | node (name:α) (mark:Int) (bs:List (Tree α))
variable {α:Type}
def Tree.bs:Tree α→List (Tree α)
 | .node _ _ bs=>bs
def atT:Tree α→List Int→Option (Tree α)
 | t,[]=>some t
 | t,i :: r=>if 0≤i then (match t.bs[i.toNat]? with
  | some b=>atT b r
  | none=>none) else none
theorem Ul (t:Tree α):atT t []=some t:=by cases t;rfl
theorem ZD (t:Tree α) (i:Int) (r:List Int):atT t (i :: r)=if 0≤i then (match t.bs[i.toNat]? with
 | some b=>atT b r
 | none=>none) else none:=by cases t;rfl
theorem Yx:∀ (p q:List Int) (t:Tree α),atT t (p ++ q)=(atT t p).bind fun u=>atT u q
 | [],q,t=>by rw [List.nil_append,Ul];rfl
 | i :: p,q,t=>by
  rw [List.cons_append,ZD,ZD]
  by_cases h:0≤i
  ·rw [if_pos h,if_pos h]
   cases t.bs[i.toNat]? with
   | none=>rfl
   | some b=>exact Yx p q b
  ·rw [if_neg h,if_neg h];rfl
def putB:Tree α→List Int→Tree α→Tree α
 | _,[],o=>o
 | .node a m bs,i :: r,o=>match bs[i.toNat]? with
  | some b=>.node a m (bs.set i.toNat (putB b r o))
  | none=>.node a m bs
theorem Xy (t o:Tree α):putB t [] o=o:=by cases t;rfl
theorem Jl (a:α) (m:Int) (bs:List (Tree α)) (i:Int) (r:List Int) (o b:Tree α) (h:bs[i.toNat]?=some b):putB (.node a m bs) (i :: r) o=.node a m (bs.set i.toNat (putB b r o)):=by
 show (match bs[i.toNat]? with
  | some b=>Tree.node a m (bs.set i.toNat (putB b r o))
  | none=>.node a m bs)=_
 rw [h]
structure Rows (α:Type) where
 n:Nat
 nm:Nat→α
 mr:Nat→Int
 up:Nat→Nat
variable {R:Rows α}
section
variable {K:Nat→List Int} {B:Nat→Tree α} {o0:Tree α}
def it (R:Rows α):Nat→Nat→Nat
 | 0,s=>s
 | j + 1,s=>R.up (it R j s)
variable {B':Nat→Tree α} {o:Tree α} {s:Nat}
end
end TM
namespace L2
open PySem PySem.Spec PyProof.Rows TM
mutual
inductive TrV (K:PySem.W.Frag) (H:Hp):V→Tree Str→Prop where
 | mk {a b:Addr} {vs:List V} {ts:List (Tree Str)} {name:Str} {mark:Int}:SqT K H a [.str name,.int mark,.ref b]→SqT K H b vs→TrAll K H vs ts→vs.length≤1000→TrV K H (.ref a) (.node name mark ts)
inductive TrAll (K:PySem.W.Frag) (H:Hp):List V→List (Tree Str)→Prop where
 | nil:TrAll K H [] []
 | cons {v:V} {vs:List V} {t:Tree Str} {ts:List (Tree Str)}:TrV K H v t→TrAll K H vs ts→TrAll K H (v :: vs) (t :: ts)
end
mutual
theorem TrV.mono {K:PySem.W.Frag} {H H':Hp} (k:∀ a xs,SqT K H a xs→SqT K H' a xs):∀ {v:V} {t:Tree Str},TrV K H v t→TrV K H' v t
 | _,_,.mk h1 h2 h3 h4=>.mk (k _ _ h1) (k _ _ h2) (TrAll.mono k h3) h4
theorem TrAll.mono {K:PySem.W.Frag} {H H':Hp} (k:∀ a xs,SqT K H a xs→SqT K H' a xs):∀ {vs:List V} {ts:List (Tree Str)},TrAll K H vs ts→TrAll K H' vs ts
 | _,_,.nil=>.nil
 | _,_,.cons h t=>.cons (TrV.mono k h) (TrAll.mono k t)
end
theorem TrAll.length {K:PySem.W.Frag} {H:Hp}:∀ {vs:List V} {ts:List (Tree Str)},TrAll K H vs ts→vs.length=ts.length
 | _,_,.nil=>rfl
 | _,_,.cons _ t=>by rw [List.length_cons,List.length_cons,TrAll.length t]
theorem TrAll.get {K:PySem.W.Frag} {H:Hp}:∀ {vs:List V} {ts:List (Tree Str)} {i:Nat} {t:Tree Str},TrAll K H vs ts→ts[i]?=some t→∃ v,vs[i]?=some v∧TrV K H v t
 | _,_,_,_,.nil,e=>by simp at e
 | _,_,0,_,.cons h _,e=>by simp at e;subst e;exact ⟨_,rfl,h⟩
 | _,_,i + 1,t,.cons _ r,e=>by
  obtain ⟨v,h1,h2⟩:=TrAll.get (i:=i) (t:=t) r (by simpa using e)
  exact ⟨v,by simpa using h1,h2⟩
theorem TrAll.append {K:PySem.W.Frag} {H:Hp}:∀ {vs ws:List V} {ts us:List (Tree Str)},TrAll K H vs ts→TrAll K H ws us→TrAll K H (vs ++ ws) (ts ++ us)
 | _,_,_,_,.nil,h=>h
 | _,_,_,_,.cons a t,h=>.cons a (TrAll.append t h)
theorem TrAll.take {K:PySem.W.Frag} {H:Hp}:∀ {vs:List V} {ts:List (Tree Str)} (n:Nat),TrAll K H vs ts→TrAll K H (vs.take n) (ts.take n)
 | _,_,0,_=>.nil
 | _,_,_ + 1,.nil=>.nil
 | _,_,n + 1,.cons a t=>.cons a (TrAll.take n t)
theorem TrAll.drop {K:PySem.W.Frag} {H:Hp}:∀ {vs:List V} {ts:List (Tree Str)} (n:Nat),TrAll K H vs ts→TrAll K H (vs.drop n) (ts.drop n)
 | _,_,0,h=>h
 | _,_,_ + 1,.nil=>.nil
 | _,_,n + 1,.cons _ t=>TrAll.drop n t
theorem SqT.put {K:PySem.W.Frag} {H:Hp} {a d:Addr} {xs ys:List V} {o:HO} (h:SqT K H a xs) (hd:H d=some (.lst ys)):SqT K (upd H d o) a xs:=by
 rcases h with (h | ⟨ob,h⟩) | h
 ·exact .inl (.inl (by rw [Qj (ne_of h hd (12:))];exact h))
 ·exact .inl (.inr ⟨ob,by rw [Qj (ne_of h hd (12:))];exact h⟩)
 ·exact .inr h
end L2
namespace TM
variable {α:Type}
mutual
def sz:Tree α→Nat
 | .node _ _ bs=>1 + szs bs
def szs:List (Tree α)→Nat
 | []=>0
 | t :: r=>sz t + szs r
end
mutual
def lv:Tree α→Nat
 | .node _ _ bs=>1 + lvs bs
def lvs:List (Tree α)→Nat
 | []=>0
 | t :: r=>max (lv t) (lvs r)
end
mutual
def pl:Tree α→List (List Int)
 | .node _ _ bs=>[] :: pls 0 bs
def pls:Nat→List (Tree α)→List (List Int)
 | _,[]=>[]
 | i,t :: r=>(pl t).map (List.cons (i:Int)) ++ pls (i + 1) r
end
open HT (MX)
variable {R:Rows α} {K:Nat→List Int} {B:Nat→Tree α} {o0:Tree α}
end TM
namespace TT
open TM PySem
inductive Lab where
 | call (m b:Int)
 | put (nm:Str) (kept:Bool) (add:Int)
abbrev Tm:=Tree Lab
def leaf (m b:Int):Tm:=.node (.call m b) 0 []
def lcl:Lab→List (Int × Int)
 | .call m b=>[(m,b)]
 | .put _ _ _=>[]
def lab:Tm→Lab
 | .node l _ _=>l
mutual
def cls:Tm→List (Int × Int)
 | .node l _ bs=>lcl l ++ OR bs
def OR:List Tm→List (Int × Int)
 | []=>[]
 | t :: r=>cls t ++ OR r
end
def hdF (f:Int→Int→Tm):Lab→List Tm→Tm
 | .call m b,_=>f m b
 | .put n k a,ts=>.node (.put n k a) 0 ts
mutual
def sub (f:Int→Int→Tm):Tm→Tm
 | .node l _ bs=>hdF f l (OH f bs)
def OH (f:Int→Int→Tm):List Tm→List Tm
 | []=>[]
 | t :: r=>sub f t :: OH f r
end
def look (t:Tm) (p:List Int):List (Int × Int):=match atT t p with
 | some u=>lcl (lab u)
 | none=>[]
variable {R:Rows Lab}
variable {B B':Nat→Tm} {f:Int→Int→Tm}
end TT
namespace L2
open PySem PyProof.Rows TM TT
abbrev XS:Str:=Str.ofString "call"
abbrev PUT:Str:=Str.ofString "put"
mutual
inductive TmV (K:PySem.W.Frag) (H:Hp):V→Tm→Prop where
 | call {a:Addr} {m b:Int}:SqT K H a [.str XS,.int m,.int b]→TmV K H (.ref a) (.node (.call m b) 0 [])
 | put {a b:Addr} {vs:List V} {ts:List Tm} {n:Str} {k:Bool} {ad:Int}:SqT K H a [.str PUT,.str n,.bl k,.int ad,.ref b]→SqT K H b vs→TmAll K H vs ts→vs.length≤1000→TmV K H (.ref a) (.node (.put n k ad) 0 ts)
inductive TmAll (K:PySem.W.Frag) (H:Hp):List V→List Tm→Prop where
 | nil:TmAll K H [] []
 | cons {v:V} {vs:List V} {t:Tm} {ts:List Tm}:TmV K H v t→TmAll K H vs ts→TmAll K H (v :: vs) (t :: ts)
end
mutual
theorem TmV.mono {K:PySem.W.Frag} {H H':Hp} (k:∀ a xs,SqT K H a xs→SqT K H' a xs):∀ {v:V} {t:Tm},TmV K H v t→TmV K H' v t
 | _,_,.call h=>.call (k _ _ h)
 | _,_,.put h1 h2 h3 h4=>.put (k _ _ h1) (k _ _ h2) (TmAll.mono k h3) h4
theorem TmAll.mono {K:PySem.W.Frag} {H H':Hp} (k:∀ a xs,SqT K H a xs→SqT K H' a xs):∀ {vs:List V} {ts:List Tm},TmAll K H vs ts→TmAll K H' vs ts
 | _,_,.nil=>.nil
 | _,_,.cons h t=>.cons (TmV.mono k h) (TmAll.mono k t)
end
theorem TmAll.length {K:PySem.W.Frag} {H:Hp}:∀ {vs:List V} {ts:List Tm},TmAll K H vs ts→vs.length=ts.length
 | _,_,.nil=>rfl
 | _,_,.cons _ t=>by rw [List.length_cons,List.length_cons,TmAll.length t]
theorem TmAll.get {K:PySem.W.Frag} {H:Hp}:∀ {vs:List V} {ts:List Tm} {i:Nat} {t:Tm},TmAll K H vs ts→ts[i]?=some t→∃ v,vs[i]?=some v∧TmV K H v t
 | _,_,_,_,.nil,e=>by simp at e
 | _,_,0,_,.cons h _,e=>by simp at e;subst e;exact ⟨_,rfl,h⟩
 | _,_,i + 1,t,.cons _ r,e=>by
  obtain ⟨v,h1,h2⟩:=TmAll.get (i:=i) (t:=t) r (by simpa using e)
  exact ⟨v,by simpa using h1,h2⟩
theorem TmAll.append {K:PySem.W.Frag} {H:Hp}:∀ {vs ws:List V} {ts us:List Tm},TmAll K H vs ts→TmAll K H ws us→TmAll K H (vs ++ ws) (ts ++ us)
 | _,_,_,_,.nil,h=>h
 | _,_,_,_,.cons a t,h=>.cons a (TmAll.append t h)
def tdl:Lab→List PyData→PyData
 | .call m b,_=>.tuple [.str XS,.int m,.int b]
 | .put n k a,ds=>.tuple [.str PUT,.str n,.bool k,.int a,.tuple ds]
mutual
def tmd:Tm→PyData
 | .node l _ bs=>tdl l (UO bs)
def UO:List Tm→List PyData
 | []=>[]
 | t :: r=>tmd t :: UO r
end
mutual
theorem TmV.rd {K:PySem.W.Frag} {H:Hp}:∀ {v:V} {t:Tm},TmV K H v t→RdV K H v (tmd t)
 | _,_,.call h=>by
  simp only [tmd,tdl]
  exact .tup h (.cons (.str _) (.cons (.int _) (.cons (.int _) .nil)))
 | _,_,.put h1 h2 h3 _=>by
  simp only [tmd,tdl]
  exact .tup h1 (.cons (.str _) (.cons (.str _) (.cons (.bl _) (.cons (.int _) (.cons (.tup h2 (TmAll.rd h3)) .nil)))))
theorem TmAll.rd {K:PySem.W.Frag} {H:Hp}:∀ {vs:List V} {ts:List Tm},TmAll K H vs ts→RdAll K H vs (UO ts)
 | _,_,.nil=>by simp only [UO];exact .nil
 | _,_,.cons h t=>by simp only [UO];exact .cons (TmV.rd h) (TmAll.rd t)
end
def MOk (d:Nat) (t:Tm):Prop:=(tmd t).canLay0=true∧(tmd t).depth≤d
theorem MOk.mono {d e:Nat} {t:Tm} (h:MOk d t) (hd:d≤e):MOk e t:=⟨h.1,Nat.le_trans h.2 hd⟩
theorem JL {d:Nat}:∀ ts:List Tm,(∀ t ∈ ts,MOk d t)→PyData.canLayAll0 (UO ts)=true∧PyData.depthAll (UO ts)≤d
 | [],_=>by simp [UO,PyData.canLayAll0,PyData.depthAll]
 | t :: r,h=>by
  obtain ⟨h1,h2⟩:=h t List.mem_cons_self
  obtain ⟨h3,h4⟩:=JL r fun u hu=>h u (47:)
  simp only [UO,PyData.canLayAll0,PyData.depthAll,h1,h3,Bool.and_self,true_and]
  lia
theorem V0:PyData.strOk XS=true:=by decide +kernel
theorem Mx:PyData.strOk PUT=true:=by decide +kernel
theorem Mv (m b:Int) (mk:Int) (bs:List Tm):MOk 1 (.node (.call m b) mk bs):=by
 constructor
 ·simp only [tmd,tdl,PyData.canLay0,PyData.canLayAll0,V0,Bool.and_self]
 ·simp only [tmd,tdl,PyData.depth,PyData.depthAll];lia
theorem NR {d:Nat} {n:Str} {k:Bool} {a mk:Int} {ts:List Tm} (hn:PyData.strOk n=true) (h:∀ t ∈ ts,MOk d t):MOk (d + 2) (.node (.put n k a) mk ts):=by
 obtain ⟨h1,h2⟩:=JL ts h
 constructor
 ·simp only [tmd,tdl,PyData.canLay0,PyData.canLayAll0,h1,hn,Mx,Bool.and_self]
 ·simp only [tmd,tdl,PyData.depth,PyData.depthAll]
  lia
end L2
namespace L2
open PySem PySem.Spec PyProof.Rows PySem.W
section
variable {X:Cx}
end
@[reducible] def strOrd:KeyOrd:=⟨List Nat,fun a b=>decide (a < b),fun a=>strKind.irrefl a,fun a b c=>strKind.trans a b c,fun a b c=>strKind.negTrans a b c,fun a b=>strKind.total a b⟩
abbrev PNx:=Addr × Str × Addr × List Str
def PairN (h:Heap) (t:PNx):Prop:=∃ (tk:Tok) (as:List Addr),h.IsTuple t.1 [Value.str t.2.1 tk,Value.ref t.2.2.1].toArray∧Reads h (.ref t.2.2.1) (.tuple (t.2.2.2.map PyData.str)) as
theorem PairN.keeps {h h':Heap} {t:PNx} (k:∀ b o,h.get? b=some o→h'.get? b=some o) (x:PairN h t):PairN h' t:=by
 obtain ⟨tk,as,h1,h2⟩:=x
 exact ⟨tk,as,IsTuple.keeps k h1,Reads.keeps k h2⟩
theorem YD {K:PySem.W.Frag} {H:Hp}:∀ p:List Str,RdAll K H (p.map V.str) (p.map PyData.str)
 | []=>.nil
 | i :: r=>.cons (.str i) (YD r)
theorem Ye:∀ p:List Str,(∀ x ∈ p,PyData.strOk x=true)→PyData.canLayAll0 (p.map PyData.str)=true
 | [],_=>by simp [PyData.canLayAll0]
 | i :: r,h=>by simp only [List.map_cons,PyData.canLayAll0,PyData.canLay0,Ye r fun x hx=>h x (List.mem_cons_of_mem _ hx),h i List.mem_cons_self,Bool.and_self]
theorem UX {h:Heap}:∀ {ts:List PNx},(∀ t ∈ ts,PairN h t)→∃ fs:List Value,KatTups h (ts.map fun t=>Value.ref t.1) fs∧(∀ v ∈ fs,∃ x t,v=Value.str x t)∧fs.length=ts.length
 | [],_=>⟨[],KatTups.nil,fun v hv=>(nomatch hv),rfl⟩
 | t :: r,ht=>by
  obtain ⟨tk,as,⟨o,go,gc,n,gd⟩,_⟩:=ht t List.mem_cons_self
  obtain ⟨fs,h1,h2,h3⟩:=UX fun u hu=>ht u (47:)
  refine ⟨Value.str t.2.1 tk :: fs,KatTups.cons go gc gd rfl h1,fun v hv=>?_,by simp [h3]⟩
  rcases List.mem_cons.mp hv with rfl | hv
  ·exact ⟨_,_,rfl⟩
  ·exact h2 v hv
section
variable {prog:Program} {w:World} {A:Around} {E:Value→Shared→Prop} {s:Shared}
theorem VX {t u:PNx} {C:Bool→Shared→Prop} (ht:PairN s.heap t) (hu:PairN s.heap u) (hok:∀ x ∈ t.2.2.2,PyData.strOk x=true) (hd:t.1≠u.1→t.2.1≠u.2.1) (hA:A.units + 2 < cLine) (h:C (decide (t.2.1.cps.toList < u.2.1.cps.toList)) s):wpAny (26:) A (keyLt' (tuples' true) (.ref t.1) (.ref u.1)) C E s:=by
 obtain ⟨tk,as,h1,h4⟩:=ht
 obtain ⟨tk2,as2,g1,g4⟩:=hu
 have lay:(PyData.tuple (t.2.2.2.map PyData.str)).canLay0=true:=by simp only [PyData.canLay0];exact Ye _ hok
 have dep:(PyData.tuple (t.2.2.2.map PyData.str)).depth≤1:=by simp only [PyData.depth,Yy];lia
 refine LH h1 g1 (fun hne=>?_) (fun heq=>?_)
 ·refine ⟨?_,oneLt_str h⟩
  have e:=(eqGives_str t.2.1 u.2.1 tk tk2).at A s
  have:(t.2.1 == u.2.1)=false:=by simpa using hd hne
  rw [this] at e
  exact e
 ·refine ⟨?_,?_,?_⟩
  ·have e:=(eqGives_str t.2.1 t.2.1 tk tk).at A s
   simpa using e
  ·have e:=SeqAt.eqAt_reads _ _ A s _ _ _ _ h4 h4 lay lay (11:)
   rw [Ya _ lay] at e
   exact e
  ·have e1:t.2.1=u.2.1:=by
    obtain ⟨o,e,_,n,d⟩:=h1
    obtain ⟨o2,e2,_,n2,d2⟩:=g1
    rw [heq,e2] at e
    cases e
    rw [d] at d2
    injection d2 with z1 z2
    have z3:[Value.str t.2.1 tk,Value.ref t.2.2.1]=[Value.str u.2.1 tk2,Value.ref u.2.2.1]:=by simpa using congrArg Array.toList z1
    injection z3 with z4 z5
    injection z4
   rw [← e1,decide_eq_false (List.lt_irrefl _)] at h
   exact h
end
section
variable {X:Cx}
theorem J4 (hu:X.A.units + 4 < cLine):Ym X (.builtin "sorted") (fun xs H Q=>∃ (l:Addr) (ts:List PNx),xs=[.ref l]∧SqL X.K H l (ts.map fun t=>V.ref t.1)∧(∀ t ∈ ts,SqT X.K H t.1 [.str t.2.1,.ref t.2.2.1]∧SqT X.K H t.2.2.1 (t.2.2.2.map V.str)∧∀ x ∈ t.2.2.2,PyData.strOk x=true)∧(ts.map fun t=>t.2.1).Nodup∧ts.length < 64 ∧
 ∀ (out:List PNx) p,out.Perm ts→(out.Pairwise fun x y=>¬ y.2.1.cps.toList < x.2.1.cps.toList)→H p=none→Q (.ref p) (upd H p (.lst (out.map fun t=>V.ref t.1)))):=by
 intro pins s σ H xs us Q I r h
 obtain ⟨l,ts,rfl,hl,ht,hnd,h64,q⟩:=h
 cases r with
 | cons r rr =>
  cases rr
  obtain rfl:_=Value.ref l:=r
  obtain ⟨its,rv,p,_⟩:=I.list hl
  obtain rfl:=YV rv
  have hP:∀ t ∈ ts,PairN s.heap t:=fun t htm=>by
   obtain ⟨h1,h2,_⟩:=ht t htm
   obtain ⟨its1,r1,p1,_⟩:=I.tuple h1
   obtain ⟨u,v,rfl,ru,rv⟩:=r1.two
   cases (show v=Value.ref _ from rv)
   obtain ⟨tk,rfl⟩:=(show ∃ tk,u=Value.str _ tk from ru)
   obtain ⟨as,q4⟩:=(RdV.tup h2 (YD _)).reads I (show RelV (.ref t.2.2.1) (.ref t.2.2.1) from rfl)
   exact ⟨tk,as,p1,q4⟩
  let d:PNx:=(0,⟨#[]⟩,0,[])
  have gd:∀ i,i < ts.length→(ts.map fun t=>Value.ref t.1).getD i Value.none=.ref (ts.getD i d).1:=fun i hi=>by simp [List.getD_eq_getElem?_getD,hi]
  have md:∀ i,i < ts.length→ts.getD i d ∈ ts:=fun i hi=>by simp [List.getD_eq_getElem?_getD,hi]
  have ek:(Value.type "str" != Value.type "tuple")=true:=by decide +kernel
  refine Ww strOrd (fun i=>(ts.getD i d).2.1.cps.toList) (tuples' true) p.isList (by simpa using h64) (fun s' E' Q' hs h2 hq=>?_) (fun s' i j C hs hi hj hC=>?_) fun pp o1 o2=>?_
  ·obtain ⟨fs,f1,f2,f3⟩:=UX (h:=s'.heap) fun t htm=>(hP t htm).keeps hs
   refine kat_kind (T:=.type "str") f1 (by rw [f3];rw [List.length_map] at h2;lia) (fun v hv=>?_) (0:) (by rw [ek];exact hq)
   obtain ⟨x,t,rfl⟩:=f2 v hv
   exact .now
  ·rw [List.length_map] at hi hj
   rw [gd i hi,gd j hj]
   refine VX ((hP _ (md i hi)).keeps hs) ((hP _ (md j hj)).keeps hs) (ht _ (md i hi)).2.2 (fun hne he=>hne ?_) (by show X.A.units + 1 + 1 + 2 < cLine;lia) hC
   have hij:i=j:=by
    have a1:(ts.map fun t=>t.2.1)[i]'(by simpa using hi)=(ts.getD i d).2.1:=by simp [List.getD_eq_getElem?_getD,hi]
    have a2:(ts.map fun t=>t.2.1)[j]'(by simpa using hj)=(ts.getD j d).2.1:=by simp [List.getD_eq_getElem?_getD,hj]
    exact (List.getElem_inj hnd).mp (a1.trans (he.trans a2.symm))
   rw [hij]
  ·rw [List.length_map] at o1 o2
   obtain ⟨w1,w2⟩:=MD (O:=strOrd) (ts:=ts) (d:=d) (key:=fun t=>t.2.1.cps.toList) o1 o2
   have em:(pp.toList.map fun i=>(ts.map fun t=>Value.ref t.1).getD i Value.none)=(pp.toList.map fun i=>ts.getD i d).map fun t=>Value.ref t.1:=by
    rw [List.map_map]
    refine List.map_congr_left fun i hi=>?_
    exact gd i (List.mem_range.mp (o1.mem_iff.mp hi))
   rw [em]
   generalize pp.toList.map (fun i=>ts.getD i d)=out at w1 w2
   obtain ⟨e,he⟩:=sortedAll_at s.heap (ts.map fun t=>Value.ref t.1) (out.map fun t=>Value.ref t.1).toArray
   have hfr:H (22:)=none:=I.hok.fresh (Nat.le_succ _)
   refine ⟨.ref (22:),_,I.laid (t':=s.toks) (o:=.lst (out.map fun t=>V.ref t.1)) (fun b o g=>sortedAll_old g) (Nat.le_succ _) ?_,rfl,q out _ w1 (w2.imp fun h=>by simpa using h) hfr⟩
   exact ⟨by rw [List.length_map,w1.length_eq,sizeLine_eq];lia,_,e,Jg out,he⟩
end
end L2
namespace L2
open PySem PySem.Spec PyProof.Rows
section
variable {prog:Program} {w:World} {A:Around} {E:Value→Shared→Prop} {s:Shared} {it t:Addr} {i:Nat} {its:Array Value} {x:Value} {Q:Value→Shared→Prop}
theorem ZU (hi:s.heap.IsTupleIter it t i) (ht:s.heap.IsTuple t its) (hx:its[i]?=some x) (q:∀ h',h'.IsTupleIter it t (i + 1)→Heap.SameBut it s.heap h'→Q x { s with heap:=h' }) :
 wpAny (26:) A (Builtin.SmallTypes.nextOf (.ref it)) Q E s:=by
 obtain ⟨oi,gi,ci,di⟩:=id hi
 obtain ⟨ot,gt,_,nt,dt⟩:=ht
 unfold Builtin.SmallTypes.nextOf
 refine wpAny_bind (wpAny_callSpecial?_slot (name:=Str.ofString "__next__") hi.typeIs F.slot_tuple_iterator_next (wpAny_call_entry F.slot_tuple_iterator_next hi.typeIs F.entry_tuple_iterator_next ?_ (F.args_tuple_iterator_next_1 _)))
 show wpAny _ _ (field (.ref it) 0 >>= _) _ _ s
 refine wpAny_bind (wpAny_field gi di (x:=.ref t) rfl ?_)
 show wpAny _ _ (if (Value.ref t == Value.none)=true then _ else _) _ _ s
 rw [if_neg (show ¬ ((Value.ref t == Value.none)=true) from Bool.false_ne_true)]
 show wpAny _ _ (field (.ref it) 1 >>= _) _ _ s
 refine wpAny_bind (wpAny_field gi di (x:=.int i 0) rfl ?_)
 show wpAny _ _ (seqItems? (.ref t) >>= _) _ _ s
 refine wpAny_bind (wpAny_seqItems gt dt ?_)
 simp only [Int.toNat_natCast,hx]
 refine wpAny_bind (wpAny_setField gi di (27:) (wpAny_pure ⟨x,rfl,wpAny_pure (q _ ⟨_,Heap.get?_update_self _ gi (Obj.isFreed_of_fields (Obj.data_mapFields di _)),(Obj.cls_mapFields ..).trans ci,?_⟩ (Heap.SameBut.update ..))⟩))
 rw [Obj.data_mapFields di];simp [rawInt]
theorem Z3 (hh:A.handled=none) (hi:s.heap.IsTupleIter it t i) (ht:s.heap.IsTuple t its) (hx:its[i]?=none)
 (q:∀ h' e,Heap.ExtBut it s.heap h'→(∃ o,h'.get? e=some o∧o.cls=.type "StopIteration")→E (.ref e) { s with heap:=h' }):wpAny (26:) A (Builtin.SmallTypes.nextOf (.ref it)) Q E s:=by
 obtain ⟨oi,gi,ci,di⟩:=id hi
 obtain ⟨ot,gt,_,nt,dt⟩:=ht
 unfold Builtin.SmallTypes.nextOf
 refine wpAny_bind (wpAny_callSpecial?_slot (name:=Str.ofString "__next__") hi.typeIs F.slot_tuple_iterator_next (wpAny_call_entry F.slot_tuple_iterator_next hi.typeIs F.entry_tuple_iterator_next ?_ (F.args_tuple_iterator_next_1 _)))
 show wpAny _ _ (field (.ref it) 0 >>= _) _ _ s
 refine wpAny_bind (wpAny_field gi di (x:=.ref t) rfl ?_)
 show wpAny _ _ (if (Value.ref t == Value.none)=true then _ else _) _ _ s
 rw [if_neg (show ¬ ((Value.ref t == Value.none)=true) from Bool.false_ne_true)]
 show wpAny _ _ (field (.ref it) 1 >>= _) _ _ s
 refine wpAny_bind (wpAny_field gi di (x:=.int i 0) rfl ?_)
 show wpAny _ _ (seqItems? (.ref t) >>= _) _ _ s
 refine wpAny_bind (wpAny_seqItems gt dt ?_)
 simp only [Int.toNat_natCast,hx]
 refine wpAny_bind (wpAny_rule (wpAny_bind (wpAny_setField gi di (27:) ?_)))
 show wpAny _ _ (newExc (.type "StopIteration") [] >>= _) _ _ _
 simp only [newExc,newTuple]
 refine wpAny_bind (wpAny_bind (wpAny_newObj_type (wpAny_bind (m:=firstArgMember _ _) (wpAny_of_eq (a:=Value.none) (by first | rfl | (simp only [firstArgMember];rfl)) (wpAny_newObj_type ?_ (by size_fits)))) (by size_fits)))
 simp only [raiseNew]
 refine wpAny_bind (wpAny_handled ?_)
 first | rw [show A.in1.handled=none from hh] | rw [hh]
 exact wpAny_bind (wpAny_pure (wpAny_throw (q _ _ (((Heap.SameBut.update ..).extBut.push _).push _) ⟨_,Heap.get?_push_size _ rfl,rfl⟩)))
theorem Vv (hh:A.handled=none) (hne:t≠it):Draws prog w A it [it,t] its.size (fun i v=>its[i]?=some v) (fun i h=>h.IsTupleIter it t i∧h.IsTuple t its) where
 live:=fun _ _ st=>let ⟨o,ho,_⟩:=st.1;⟨o,ho⟩
 frame:=fun _ _ _ st hk=>⟨st.1.at fun o e=>hk it (27:) o e,let ⟨o,ho,r⟩:=st.2;⟨o,hk t (27:) o ho,r⟩⟩
 item:=fun i s Q E hi st hQ=>ZU st.1 st.2 (x:=its[i]) (by simp [hi]) fun h' hit' hs'=>hQ _ h' s.toks (by simp [hi]) ⟨hit',st.2.extBut hs'.extBut hne⟩ hs'
 done:=fun s Q E st hE=>Z3 hh st.1 st.2 (27:) hE
end
theorem VD (t:Addr) (its:Array Value) (n:Nat) (dct:Option Addr) (sl:Array (Option Value)) :
 Meets (Builtin.«enumerate.__new__» ⟨[.type "enumerate", .ref t],[]⟩) (fun _ R s=>s.heap.get? t=some { cls:=.type "tuple", dict:=dct,data:=.seq its n,slots:=sl } ∧
  R (.ok (.ret (.ref (43:).objs.size)))
   { s with heap:=(43:).push { cls:=.type "enumerate", data:=.fields #[.none,.bool false,.ref s.heap.objs.size,rawInt 0,.none,.none] } }) :=
 .of_wp fun prog w A R s h=>by
  obtain ⟨hp,g,d,tk,os⟩:=s
  obtain ⟨hl,h⟩:=h
  have hsub:=sub_enumerate
  have hT:Heap.IsTuple (Shared.heap ⟨hp,g,d,tk,os⟩) t its:=⟨_,hl,rfl,n,rfl⟩
  wp_walk using AutoSeq1.wpAny_loadPart' hl
  refine wpAny_stack_any fun st=>wpAny_pure ?_
  split
  ·rename_i c _ _ _ _ _
   cases (c == Value.type "enumerate") <;> (wp_walk using AutoSeq1.wpAny_loadPart' hl,wpAny_pyIter_tuple hT;exact ⟨_,rfl,h⟩)
  ·wp_walk using AutoSeq1.wpAny_loadPart' hl,wpAny_pyIter_tuple hT
   exact ⟨_,rfl,h⟩
theorem WN {prog:Program} {w:World} {A:Around} {E:Value→Shared→Prop} {s:Shared} {t:Addr} {its:Array Value} {Q:Value→Shared→Prop} (hT:s.heap.IsTuple t its)
 (h:∀ h',IsEnum h' (22:) s.heap.objs.size 0 .none→h'.IsTupleIter s.heap.objs.size t 0→h'.objs.size=s.heap.objs.size + 2 →
  (∀ b o,s.heap.get? b=some o→h'.get? b=some o)→Q (.ref (22:)) { s with heap:=h' }) :
 wpAny (26:) A (call (.type "enumerate") [.ref t]) Q E s:=by
 obtain ⟨⟨c,dct,dt,sl⟩,hl,hc,n,hd⟩:=hT
 simp only at hc hd
 subst hc hd
 refine callType_new F.called_enumerate (18:) (F.typeCall_enumerate_1 _) (F.newCall_enumerate_1 _) (fun obj=>F.args_object_init_2 obj _) F.entry_enumerate_new (VD t its n dct sl) ⟨hl,?_⟩
 have hz:(43:).objs.size=s.heap.objs.size + 1:=Heap.size_push ..
 have he:=Heap.get?_push_size (43:) (o:={ cls:=.type "enumerate", data:=.fields #[.none,.bool false,.ref s.heap.objs.size,rawInt 0,.none,.none] }) rfl
 show _∧_
 rw [hz] at he ⊢
 exact ⟨⟨_,he,rfl⟩,h _ he ⟨_,Heap.get?_push_of_some _ (Heap.get?_push_size _ rfl),rfl,rfl⟩ (by rw [Heap.size_push,hz]) fun b o y=>Heap.get?_push_of_some _ (Heap.get?_push_of_some _ y)⟩
def Ite (K:PySem.W.Frag) (a:Addr):It :=
 ⟨fun i H=>∃ xs x,SqT K H a xs∧xs[i]?=some x,fun i H x H'=>∃ p v,H p=none∧x=.ref p∧H'=upd H p (.tup [.int (i:Int),v])∧∀ xs,SqT K H a xs→xs[i]?=some v,fun i H=>∃ xs,SqT K H a xs∧xs.length≤i⟩
theorem Vn {P:Program} {w:World} {K:PySem.W.Frag} {elts:List Expr} {k1:Nat} {pos:Pos} (a e it:Addr) (hei:e≠it) :
 Turn P w K (.Tuple elts k1 pos) (Ite K a) [e,it] e (fun i h=>(∃ old,IsEnum h e it (i:Nat) old)∧h.IsTupleIter it a i) where
 mem:=by simp
 obj:=fun i h st c hc=>by
  obtain ⟨⟨old,he⟩,hi⟩:=st
  simp only [List.mem_cons,List.mem_nil_iff,or_false] at hc
  rcases hc with rfl | rfl
  ·exact ⟨_,he,fun v z=>by have z':Data.fields _=Data.cell v:=z;cases z'⟩
  ·obtain ⟨o,g,c,d⟩:=hi;exact ⟨o,g,fun v z=>by rw [d] at z;cases z⟩
 keep:=fun i h h' st k=>by
  obtain ⟨⟨old,he⟩,hi⟩:=st
  exact ⟨⟨old,k e (27:) _ he⟩,hi.at fun o g=>k it (27:) o g⟩
 item:=by
  intro X hP hw hK hc i pins s σ H E I hf st hg
  subst hP hw hK
  obtain ⟨⟨old,he⟩,hi⟩:=st
  obtain ⟨xs,x,hq,hx⟩:=hg
  obtain ⟨its,rv,p,hz⟩:=I.tuple hq
  obtain ⟨u,hu,ru⟩:=rv.get hx
  have pt:s.heap.IsTuple a its.toArray:=p
  obtain ⟨oa,ga,ca,na,da⟩:=id pt
  have hae:a≠e:=fun z=>by
   subst z
   have hE:s.heap.get? a=some _:=he
   rw [hE] at ga
   cases ga
   exact absurd (Value.type.inj ca) (18:)
  have hai:a≠it:=fun z=>by
   subst z
   obtain ⟨o,g,c,d⟩:=hi
   rw [g] at ga
   cases ga
   rw [c] at ca
   exact absurd (Value.type.inj ca) (18:)
  have hlt:i < its.toArray.size:=by
   have:=(List.getElem?_eq_some_iff.mp hu).1
   simpa using this
  refine wpAny_pyNext_enum_itemD (Vv (prog:=X.prog) (w:=X.w) (A:=X.A.in1) (it:=it) (t:=a) (its:=its.toArray) (I.ok.hd hc) hai) he ⟨hi,pt⟩ hlt hei (by simp only [List.mem_cons,List.mem_nil_iff,or_false,not_or];exact ⟨hei,Ne.symm hae⟩) fun y h' tk hy ho hst ht hsz hk=>?_
  have hyu:y=u:=by
   have:its.toArray[i]?=some u:=by simpa using hu
   exact Option.some.inj (hy.symm.trans this)
  subst hyu
  refine ⟨.ref s.heap.objs.size,rfl,wpAny_letOwnedTupleGo_enum (s:={ s with heap:=h',toks:=tk + 1 }) ho fun h'' he'' hs'=>?_⟩
  have lt:∀ {c o},s.heap.get? c=some o→c≠s.heap.objs.size:=fun g=>Nat.ne_of_lt (Heap.lt_size g)
  have hse:s.heap.objs.size≠e:=Ne.symm (lt he)
  have hch:∀ c ∈ [e,it],Yz X pins H c:=hf
  have I2:Inv X pins σ (upd H s.heap.objs.size (.tup [.int (i:Int),x])) { s with heap:=h'',toks:=tk + 1 }:=by
   refine I.turnedNew (ch:=[e,it]) (fun c o hc g=>?_) hch (9:) ⟨by show 2≤sizeLine;decide,[.int (i:Int) tk,y],.cons ⟨tk,rfl⟩ (.cons ru .nil),⟨_,(hs'.2 _ hse).trans ht,rfl,_,rfl⟩⟩
   simp only [List.mem_cons,List.mem_nil_iff,or_false,not_or] at hc
   exact (hs'.2 c hc.1).trans (hk c o hc.1 hc.2 g)
  have hfr:∀ c ∈ [e,it],upd H s.heap.objs.size (.tup [.int (i:Int),x]) c=none:=fun c hc=>by
   have:c≠s.heap.objs.size:=by
    have hc':=hc
    simp only [List.mem_cons,List.mem_nil_iff,or_false] at hc'
    rcases hc' with rfl | rfl
    ·exact lt he
    ·obtain ⟨o,g,_⟩:=hi;exact lt g
   rw [Qj this];exact (hf c hc).1
  exact ⟨.ref s.heap.objs.size,_,I2,rfl,⟨s.heap.objs.size,x,I.fresh,rfl,rfl,fun ys hys=>by rw [I.tuple_inj hys hq];exact hx⟩,⟨⟨_,he''⟩,hst.1.extBut hs'.extBut (Ne.symm hei)⟩,hfr⟩
 done:=by
  intro X hP hw hK hc i pins s σ H E I hf st hg
  subst hP hw hK
  obtain ⟨⟨old,he⟩,hi⟩:=st
  obtain ⟨xs,hq,hx⟩:=hg
  obtain ⟨its,rv,p,hz⟩:=I.tuple hq
  have pt:s.heap.IsTuple a its.toArray:=p
  have hlen:=rv.length
  have hn:its.toArray.size≤i:=by simp;lia
  have hT:s.TypeIs (.ref e) "enumerate" := ⟨_,he,rfl⟩
  unfold pyNext
  refine wpAny_bind (wpAny_attempt (wpAny_callSpecial?_slot (name:=Str.ofString "__next__") hT F.slot_enumerate_next (wpAny_call_entry F.slot_enumerate_next hT F.entry_enumerate_next ?_ (F.args_enumerate_next_1 _))))
  show wpAny _ _ (field (.ref e) 2 >>= _) _ _ _
  refine wpAny_bind (wpAny_field he rfl (x:=.ref it) rfl ?_)
  refine wpAny_bind (Z3 (A:=X.A.in1) (I.ok.hd hc) hi pt (Array.getElem?_eq_none hn) fun h' y he' hy=>?_)
  obtain ⟨o,ho,hcl⟩:=hy
  refine wpAny_bind (wpAny_isInstance (T:="StopIteration") (b:=true) ⟨o,ho,hcl⟩ isSubtype_stop ?_)
  refine wpAny_pure ⟨rfl,I.turnedL (t':=s.toks) (ch:=[e,it]) (fun c u hc' g=>he' c u (fun z=>hc' (by rw [z];simp)) g) hf⟩
 self:=fun _ _ _ _ _ st h=>wpAny_pyIter_enum st.1.choose_spec h
section
variable {X:Cx} {elts:List Expr} {k1:Nat} {tpos:Pos}
def OE (K:PySem.W.Frag) (ta:TA):TI:=fun σ H R=>ta σ H fun vs H1=>∃ a xs,vs=[.ref a]∧SqT K H1 a xs∧R (Ite K a) H1
theorem LS {e1:Expr} {ta:TA} {p pos:Pos} (hg:Gl X "enumerate") (hm:X.mg "enumerate" = none) (ha:PA X [e1] ta) (hb:bootBuiltins "enumerate" = some (.type "enumerate"):=by decide +kernel) (hs:starEach [e1] X.env=[(false,eval e1 X.env)]:=by rfl) :
 PI X (.Tuple elts k1 tpos) (.Call (.Name "enumerate" p) [e1] [] pos) (OE X.K ta):=by
 intro pins s σ H R I h
 refine Call_ (ZM I hg hm hb (PyProof.Rows.callWith_type1 (30:) hs rfl))
 obtain ⟨a,xs,e,hq,q⟩:=q1
 subst e
 cases r1 with
 | cons r rr =>
  cases rr
  obtain rfl:_=Value.ref a:=r
  obtain ⟨its,rv,pt,_⟩:=I1.tuple hq
  refine WN (show s1.heap.IsTuple a its.toArray from pt) fun h' he hi hsz hk=>?_
  refine wpAny_pyIter_enum he ?_
  have I2:Inv X pins σ H1 { s1 with heap:=h' }:=I1.kept (t':=s1.toks) hk
  refine ⟨s1.heap.objs.size + 1,[s1.heap.objs.size + 1,s1.heap.objs.size],_,_,H1,rfl,I2,Vn a (s1.heap.objs.size + 1) s1.heap.objs.size (nne (11:)),⟨⟨_,he⟩,hi⟩,fun c hc=>?_,q⟩
  have hle:@LE.le Nat _ s1.heap.objs.size c:=by
   simp only [List.mem_cons,List.mem_nil_iff,or_false] at hc
   rcases hc with rfl | rfl <;> lia
  exact I1.fpOk hle (I1.hok.fresh hle)
theorem Gv {K:PySem.W.Frag} {a:Addr} {xs:List V} {g:TG} {tb:TS} {D:Ends} {σ:St} {H:Hp} (Pv:Nat→St→Hp→Prop) (h0:Pv 0 σ H) (hl:∀ i σ H,i≤xs.length→Pv i σ H→SqT K H a xs)
 (hs:∀ i v p σ H,xs[i]?=some v→H p=none→Pv i σ H→g (.ref p) σ (upd H p (.tup [.int (i:Int),v])) fun σ2 H2=>tb { D with nx:=Pv (i + 1),ct:=Pv (i + 1),bk:=D.nx } σ2 H2) (hd:∀ σ H,Pv xs.length σ H→D.nx σ H) :
 ∃ W:Nat→Nat→St→Hp→Prop,(∃ m,W 0 m σ H)∧∀ i m σ H,W i m σ H →
  ((Ite K a).stop i H∧D.nx σ H)∨((Ite K a).go i H∧∃ N:St→Hp→Prop,(17:)∧∀ x H',(Ite K a).yld i H x H'→g x σ H' fun σ2 H2=>tb { D with nx:=N,ct:=N,bk:=D.nx } σ2 H2):=by
 refine (51:)
 rintro i m σ H ⟨rfl,hi,p⟩
 have hq:=hl i σ H hi p
 by_cases h:i < xs.length
 ·refine .inr ⟨⟨xs,xs[i],hq,List.getElem?_eq_getElem h⟩,Pv (i + 1),fun σ' H' p'=>⟨xs.length - (i + 1),by lia,rfl,h,p'⟩,?_⟩
  rintro x H' ⟨p',v,hp,rfl,rfl,hv⟩
  exact hs i v p' σ H (hv xs hq) hp p
 ·have e:i=xs.length:=by lia
  subst e
  exact .inl ⟨⟨xs,hq,Nat.le_refl _⟩,hd σ H p⟩
end
end L2
namespace L2
open PySem PySem.Spec PyProof.Rows
section
variable {prog:Program} {w:World} {A:Around} {E:Value→Shared→Prop} {s:Shared}
theorem VU {zp ti tu j1 j2 t1 t2:Addr} {n1 n2:Nat} {us vs:Array Value} {p q c d:Value} {Q:Value→Shared→Prop} (Ap:ZipApart zp ti tu j1 j2 t1 t2)
 (gz:IsZip s.heap zp ti tu .none) (gi:IsPair s.heap ti (.ref j1) (.ref j2)) (gu:IsPair s.heap tu c d)
 (w1:s.heap.IsTupleIter j1 t1 n1) (w2:s.heap.IsTupleIter j2 t2 n2) (l1:s.heap.IsTuple t1 us) (l2:s.heap.IsTuple t2 vs) (ep:us[n1]?=some p) (eq:vs[n2]?=some q)
 (k:∀ h',IsZip h' zp ti tu (rawInt s.heap.objs.size)→IsPair h' tu p q→h'.IsTupleIter j1 t1 (n1 + 1)→h'.IsTupleIter j2 t2 (n2 + 1)→IsPair h' s.heap.objs.size p q →
  (42:)→Q (.ref s.heap.objs.size) { s with heap:=h' }) :
 wpAny (26:) A (Builtin.«zip.__next__» ⟨[.ref zp],[]⟩) (fun fin s'=>∃ v,fin=.done (.ret v)∧Q v s') E s:=by
 show wpAny _ _ (field (.ref zp) 2 >>= _) _ _ _
 refine wpAny_bind (wpAny_field gz rfl (x:=.bool false) rfl ?_)
 show wpAny _ _ (field (.ref zp) 3 >>= _) _ _ _
 refine wpAny_bind (wpAny_field gz rfl (x:=.ref ti) rfl ?_)
 refine wpAny_bind (wpAny_seqItems gi rfl ?_)
 show wpAny _ _ (Builtin.SmallTypes.ownedTupleIsFree (.ref zp) >>= _) _ _ _
 refine wpAny_bind ?_;(unfold Builtin.SmallTypes.ownedTupleIsFree);refine wpAny_bind (wpAny_field gz rfl (x:=.none) rfl (wpAny_pure ?_))
 simp only [if_true]
 refine wpAny_bind (wpAny_rule (wpAny_bind (wpAny_field gz rfl (x:=.ref tu) rfl ?_)))
 refine wpAny_bind (wpAny_setField_rec gz (27:) fun ha gza sa=>?_)
 replace gza:IsZip ha zp ti tu .ellipsis:=gza
 refine wpAny_bind ?_
 simp only [List.forIn_cons,List.forIn_nil,List.zipIdx_cons,List.zipIdx_nil]
 refine wpAny_bind (wpAny_bind (wpAny_onRaise ?_))
 show wpAny _ _ (Builtin.SmallTypes.nextOf (.ref j1) >>= _) _ _ _
 refine wpAny_bind (ZU (w1.extBut sa.extBut Ap.i1z) (l1.extBut sa.extBut Ap.l1z) ep fun hb w1b sb=>wpAny_pure ?_)
 have gub:IsPair hb tu c d:=sb.extBut _ _ Ap.TOi1 (sa.extBut _ _ Ap.TOz gu)
 refine wpAny_bind (wpAny_seqItems gub rfl (wpAny_bind (wpAny_updateSeq_pair gub fun hc guc sc=>?_)))
 replace guc:IsPair hc tu p d:=guc
 refine wpAny_bind (wpAny_letGo (wpAny_pure (wpAny_bind (wpAny_bind (wpAny_onRaise ?_)))))
 show wpAny _ _ (Builtin.SmallTypes.nextOf (.ref j2) >>= _) _ _ _
 refine wpAny_bind (ZU (((w2.extBut sa.extBut Ap.i2z).extBut sb.extBut Ap.i12.symm).extBut sc.extBut Ap.TOi2.symm) (((l2.extBut sa.extBut Ap.l2z).extBut sb.extBut Ap.l2i1).extBut sc.extBut Ap.l2TO) eq fun hd w2d sd=>wpAny_pure ?_)
 have gud:IsPair hd tu p d:=sd.extBut _ _ Ap.TOi2 guc
 refine wpAny_bind (wpAny_seqItems gud rfl (wpAny_bind (wpAny_updateSeq_pair gud fun he gue se=>?_)))
 replace gue:IsPair he tu p q:=gue
 refine wpAny_bind (wpAny_letGo (wpAny_pure (wpAny_pure (wpAny_bind (wpAny_seqItems gue rfl (wpAny_bind (wpAny_newTuple ?_)))))))
 have size5:he.objs.size=s.heap.objs.size:=by rw [se.1,sd.1,sc.1,sb.1,sa.1]
 have gze:IsZip he zp ti tu .ellipsis:=se.extBut _ _ Ap.TOz.symm (sd.extBut _ _ Ap.i2z.symm (sc.extBut _ _ Ap.TOz.symm (sb.extBut _ _ Ap.i1z.symm gza)))
 have kept5:∀ b o,b≠zp→b≠tu→b≠j1→b≠j2→s.heap.get? b=some o→he.get? b=some o:=fun b o b1 b2 b3 b4 e=>se.extBut _ _ b2 (sd.extBut _ _ b4 (sc.extBut _ _ b2 (sb.extBut _ _ b3 (sa.extBut _ _ b1 e))))
 have w1e:he.IsTupleIter j1 t1 (n1 + 1):=((w1b.extBut sc.extBut Ap.TOi1.symm).extBut sd.extBut Ap.i12).extBut se.extBut Ap.TOi1.symm
 have w2e:he.IsTupleIter j2 t2 (n2 + 1):=w2d.extBut se.extBut Ap.TOi2.symm
 have lz:zp < he.objs.size:=Heap.lt_size gze
 show wpAny _ _ (Builtin.SmallTypes.ownedTupleHandOut (.ref zp) (.ref he.objs.size) >>= _) _ _ _
 refine wpAny_bind ?_;(unfold Builtin.SmallTypes.ownedTupleHandOut)
 have gzf:IsZip (he.push { cls:=.type "tuple", data:=.seq #[p,q] }) zp ti tu .ellipsis:=Heap.get?_push_of_some _ gze
 refine wpAny_bind (wpAny_setField_rec gzf (27:) fun hg gzg sg=>?_)
 replace gzg:IsZip hg zp ti tu (rawInt he.objs.size):=gzg
 refine wpAny_setField_rec gzg (27:) fun hh gzh sh=>?_
 replace gzh:IsZip hh zp ti tu (rawInt he.objs.size):=gzh
 have upw:∀ b o,b≠zp→he.get? b=some o→hh.get? b=some o:=fun b o b1 e=>sh.extBut _ _ b1 (sg.extBut _ _ b1 (Heap.get?_push_of_some _ e))
 have gnew:IsPair hh he.objs.size p q:=sh.extBut _ _ (Nat.ne_of_gt lz) (sg.extBut _ _ (Nat.ne_of_gt lz) (Heap.get?_push_size _ rfl))
 rw [size5] at gzh gnew
 refine wpAny_pure ⟨_,rfl,?_⟩
 show Q (.ref he.objs.size) _
 rw [size5]
 exact k hh gzh (upw _ _ Ap.TOz gue) (w1e.at fun o e=>upw _ o Ap.i1z e) (w2e.at fun o e=>upw _ o Ap.i2z e) gnew fun b o b1 b2 b3 b4 e=>upw b o b1 (kept5 b o b1 b2 b3 b4 e)
theorem Go {zp ti tu j1 j2 t1 t2:Addr} {n1 n2:Nat} {us vs:Array Value} {c d:Value} {Q:Fin→Shared→Prop} (hh:A.handled=none) (Ap:ZipApart zp ti tu j1 j2 t1 t2)
 (gz:IsZip s.heap zp ti tu .none) (gi:IsPair s.heap ti (.ref j1) (.ref j2)) (gu:IsPair s.heap tu c d)
 (w1:s.heap.IsTupleIter j1 t1 n1) (l1:s.heap.IsTuple t1 us) (ep:us[n1]?=none)
 (k:∀ h' e,(42:)→(∃ o,h'.get? e=some o∧o.cls=.type "StopIteration")→E (.ref e) { s with heap:=h' }) :
 wpAny (26:) A (Builtin.«zip.__next__» ⟨[.ref zp],[]⟩) Q E s:=by
 show wpAny _ _ (field (.ref zp) 2 >>= _) _ _ _
 refine wpAny_bind (wpAny_field gz rfl (x:=.bool false) rfl ?_)
 show wpAny _ _ (field (.ref zp) 3 >>= _) _ _ _
 refine wpAny_bind (wpAny_field gz rfl (x:=.ref ti) rfl ?_)
 refine wpAny_bind (wpAny_seqItems gi rfl ?_)
 show wpAny _ _ (Builtin.SmallTypes.ownedTupleIsFree (.ref zp) >>= _) _ _ _
 refine wpAny_bind ?_;(unfold Builtin.SmallTypes.ownedTupleIsFree);refine wpAny_bind (wpAny_field gz rfl (x:=.none) rfl (wpAny_pure ?_))
 simp only [if_true]
 refine wpAny_bind (wpAny_rule (wpAny_bind (wpAny_field gz rfl (x:=.ref tu) rfl ?_)))
 refine wpAny_bind (wpAny_setField_rec gz (27:) fun ha gza sa=>?_)
 replace gza:IsZip ha zp ti tu .ellipsis:=gza
 refine wpAny_bind ?_
 simp only [List.forIn_cons,List.forIn_nil,List.zipIdx_cons,List.zipIdx_nil]
 refine wpAny_bind (wpAny_bind (wpAny_onRaise ?_))
 show wpAny _ _ (Builtin.SmallTypes.nextOf (.ref j1) >>= _) _ _ _
 refine wpAny_bind (Z3 hh (w1.extBut sa.extBut Ap.i1z) (l1.extBut sa.extBut Ap.l1z) ep fun hb e sb ge=>?_)
 obtain ⟨oe,hoe,hce⟩:=ge
 have gzb:IsZip hb zp ti tu .ellipsis:=sb _ _ Ap.i1z.symm gza
 have nez:e≠zp:=fun x=>by subst x;rw [gzb] at hoe;cases hoe;simp at hce
 refine wpAny_setField_rec gzb (27:) fun hc _ sc=>k hc e (fun b o b1 _ b3 _ x=>sc.extBut _ _ b1 (sb _ _ b3 (sa.extBut _ _ b1 x))) ⟨oe,sc.extBut _ _ nez hoe,hce⟩
theorem YS {zp ti tu j1 j2 t1 t2:Addr} {n1 n2:Nat} {us vs:Array Value} {p q c d:Value} {Q:Option Value→Shared→Prop} (Ap:ZipApart zp ti tu j1 j2 t1 t2)
 (gz:IsZip s.heap zp ti tu .none) (gi:IsPair s.heap ti (.ref j1) (.ref j2)) (gu:IsPair s.heap tu c d)
 (w1:s.heap.IsTupleIter j1 t1 n1) (w2:s.heap.IsTupleIter j2 t2 n2) (l1:s.heap.IsTuple t1 us) (l2:s.heap.IsTuple t2 vs) (ep:us[n1]?=some p) (eq:vs[n2]?=some q)
 (k:∀ h',IsZip h' zp ti tu (rawInt s.heap.objs.size)→IsPair h' tu p q→h'.IsTupleIter j1 t1 (n1 + 1)→h'.IsTupleIter j2 t2 (n2 + 1)→IsPair h' s.heap.objs.size p q →
  (42:)→Q (some (.ref s.heap.objs.size)) { s with heap:=h' }) :
 wpAny (26:) A (pyNext (.ref zp)) Q E s:=by
 have tz:s.TypeIs (.ref zp) "zip" := ⟨_,gz,rfl⟩
 unfold pyNext
 exact wpAny_bind (wpAny_attempt (wpAny_callSpecial?_slot (name:=Str.ofString "__next__") tz F.slot_zip_next (wpAny_call_entry F.slot_zip_next tz F.entry_zip_next (VU Ap gz gi gu w1 w2 l1 l2 ep eq fun h' a1 a2 a3 a4 a5 a6=>wpAny_pure (k h' a1 a2 a3 a4 a5 a6)) (F.args_zip_next_1 _))))
theorem Uh {zp ti tu j1 j2 t1 t2:Addr} {n1 n2:Nat} {us:Array Value} {c d:Value} {Q:Option Value→Shared→Prop} (hh:A.handled=none) (Ap:ZipApart zp ti tu j1 j2 t1 t2)
 (gz:IsZip s.heap zp ti tu .none) (gi:IsPair s.heap ti (.ref j1) (.ref j2)) (gu:IsPair s.heap tu c d) (w1:s.heap.IsTupleIter j1 t1 n1) (l1:s.heap.IsTuple t1 us) (ep:us[n1]?=none)
 (k:∀ h',(42:)→Q none { s with heap:=h' }):wpAny (26:) A (pyNext (.ref zp)) Q E s:=by
 have tz:s.TypeIs (.ref zp) "zip" := ⟨_,gz,rfl⟩
 unfold pyNext
 refine wpAny_bind (wpAny_attempt (wpAny_callSpecial?_slot (name:=Str.ofString "__next__") tz F.slot_zip_next (wpAny_call_entry F.slot_zip_next tz F.entry_zip_next (Go hh (n2:=n2) (vs:=us) Ap gz gi gu w1 l1 ep fun h' e hk ge=>?_) (F.args_zip_next_1 _))))
 obtain ⟨o,ho,hc⟩:=ge
 exact wpAny_bind (wpAny_isInstance (T:="StopIteration") (b:=true) ⟨o,ho,hc⟩ isSubtype_stop (wpAny_pure (k _ hk)))
abbrev zT1 (h:Heap) (t1:Addr):Heap:=h.push { cls:=.type "tuple_iterator", data:=.fields #[.ref t1,.int 0 0] }
abbrev zT2 (h:Heap) (t1 t2:Addr):Heap:=(zT1 h t1).push { cls:=.type "tuple_iterator", data:=.fields #[.ref t2,.int 0 0] }
abbrev zT3 (h:Heap) (t1 t2:Addr):Heap:=(zT2 h t1 t2).push { cls:=.type "tuple", data:=.seq #[.ref h.objs.size,.ref (zT1 h t1).objs.size] }
abbrev zT4 (h:Heap) (t1 t2:Addr):Heap:=(zT3 h t1 t2).push { cls:=.type "tuple", data:=.seq #[.none,.none] }
abbrev zT5 (h:Heap) (t1 t2:Addr):Heap:=(zT4 h t1 t2).push { cls:=.type "zip", data:=.fields #[.none,.bool false,.bool false,.ref (zT2 h t1 t2).objs.size,.ref (zT3 h t1 t2).objs.size] }
theorem Ls (t1 t2:Addr) (us vs:Array Value) :
 Meets (Builtin.«zip.__new__» ⟨[.type "zip", .ref t1,.ref t2],[]⟩) (fun _ R s=>s.heap.IsTuple t1 us∧s.heap.IsTuple t2 vs ∧
  R (.ok (.ret (.ref (zT4 s.heap t1 t2).objs.size))) { s with heap:=zT5 s.heap t1 t2 }) :=
 .of_wp fun prog w A R s h=>by
  obtain ⟨hp,g,d,tk,os⟩:=s;obtain ⟨l1,l2,h⟩:=h
  have hsub:=sub_zip
  have L1:Heap.IsTuple (Shared.heap ⟨hp,g,d,tk,os⟩) t1 us:=l1
  have L2:Heap.IsTuple (Shared.heap ⟨hp.push { cls:=.type "tuple_iterator", data:=.fields #[.ref t1,.int 0 0] },g,d,tk,os⟩) t2 vs:=let ⟨o,e,r⟩:=l2;⟨o,Heap.get?_push_of_some _ e,r⟩
  wp_walk using wpAny_pyIter_tuple L1,wpAny_pyIter_tuple L2
  exact ⟨_,rfl,h⟩
theorem VL {t1 t2:Addr} {us vs:Array Value} {Q:Value→Shared→Prop} (l1:s.heap.IsTuple t1 us) (l2:s.heap.IsTuple t2 vs)
 (h:∀ h',IsZip h' (s.heap.objs.size + 4) (s.heap.objs.size + 2) (s.heap.objs.size + 3) .none→IsPair h' (s.heap.objs.size + 2) (.ref s.heap.objs.size) (.ref (22:)) →
  IsPair h' (s.heap.objs.size + 3) .none .none→h'.IsTupleIter s.heap.objs.size t1 0→h'.IsTupleIter (22:) t2 0 →
  (∀ c o,s.heap.get? c=some o→h'.get? c=some o)→Q (.ref (s.heap.objs.size + 4)) { s with heap:=h' }) :
 wpAny (26:) A (call (.type "zip") [.ref t1,.ref t2]) Q E s:=by
 refine callType_new F.called_zip (18:) (F.typeCall_zip_2 _ _) (F.newCall_zip_2 _ _) (fun obj=>F.args_object_init_3 obj _ _) F.entry_zip_new (Ls t1 t2 us vs) ⟨l1,l2,?_⟩
 have q1:(zT1 s.heap t1).objs.size=s.heap.objs.size + 1:=Heap.size_push ..
 have q2:(zT2 s.heap t1 t2).objs.size=s.heap.objs.size + 2:=by rw [Heap.size_push,q1]
 have q3:(zT3 s.heap t1 t2).objs.size=s.heap.objs.size + 3:=by rw [Heap.size_push,q2]
 have q4:(zT4 s.heap t1 t2).objs.size=s.heap.objs.size + 4:=by rw [Heap.size_push,q3]
 have r5:(zT5 s.heap t1 t2).get? (zT4 s.heap t1 t2).objs.size=some _:=Heap.get?_push_size _ rfl
 have r4:(zT5 s.heap t1 t2).get? (zT3 s.heap t1 t2).objs.size=some _:=Heap.get?_push_of_some _ (Heap.get?_push_size _ rfl)
 have r3:(zT5 s.heap t1 t2).get? (zT2 s.heap t1 t2).objs.size=some _:=Heap.get?_push_of_some _ (Heap.get?_push_of_some _ (Heap.get?_push_size _ rfl))
 have r2:(zT5 s.heap t1 t2).get? (zT1 s.heap t1).objs.size=some _:=Heap.get?_push_of_some _ (Heap.get?_push_of_some _ (Heap.get?_push_of_some _ (Heap.get?_push_size _ rfl)))
 have r1:(zT5 s.heap t1 t2).get? s.heap.objs.size=some _:=Heap.get?_push_of_some _ (Heap.get?_push_of_some _ (Heap.get?_push_of_some _ (Heap.get?_push_of_some _ (Heap.get?_push_size _ rfl))))
 show _∧_
 rw [q2,q3,q4] at r5
 rw [q1,q2] at r3
 rw [q3] at r4
 rw [q1] at r2
 rw [q4]
 exact ⟨⟨_,r5,rfl⟩,h _ r5 r3 r4 ⟨_,r1,rfl,rfl⟩ ⟨_,r2,rfl,rfl⟩ fun b o x=>Heap.get?_push_of_some _ (Heap.get?_push_of_some _ (Heap.get?_push_of_some _ (Heap.get?_push_of_some _ (Heap.get?_push_of_some _ x))))⟩
end
def Gk (K:PySem.W.Frag) (a b:Addr) (xs ys:List V):It :=
 ⟨fun i H=>SqT K H a xs∧SqT K H b ys∧i < xs.length∧i < ys.length,fun i H x H'=>∃ p u v,H p=none∧x=.ref p∧H'=upd H p (.tup [u,v])∧xs[i]?=some u∧ys[i]?=some v,fun i H=>SqT K H a xs∧xs.length≤i⟩
theorem Vt {P:Program} {w:World} {K:PySem.W.Frag} {elts:List Expr} {k1:Nat} {pos:Pos} (a b z:Addr) (xs ys:List V) (TI TO i1 i2:Addr) (Ap:ZipApart z TI TO i1 i2 a b) :
 Turn P w K (.Tuple elts k1 pos) (Gk K a b xs ys) [z,TI,TO,i1,i2] z (fun i h=>IsZip h z TI TO .none∧IsPair h TI (.ref i1) (.ref i2)∧(∃ u v,IsPair h TO u v)∧h.IsTupleIter i1 a i∧h.IsTupleIter i2 b i) where
 mem:=by simp
 obj:=fun i h st c hc=>by
  obtain ⟨hz,hTI,⟨u,v,hTO⟩,h1,h2⟩:=st
  simp only [List.mem_cons,List.mem_nil_iff,or_false] at hc
  rcases hc with rfl | rfl | rfl | rfl | rfl
  ·exact ⟨_,hz,fun v z=>by have z':Data.fields _=Data.cell v:=z;cases z'⟩
  ·exact ⟨_,hTI,fun v z=>by have z':Data.seq _ _=Data.cell v:=z;cases z'⟩
  ·exact ⟨_,hTO,fun v z=>by have z':Data.seq _ _=Data.cell v:=z;cases z'⟩
  ·obtain ⟨o,e,c,d⟩:=h1;exact (48:)
  ·obtain ⟨o,e,c,d⟩:=h2;exact (48:)
 keep:=fun i h h' st k=>by
  obtain ⟨hz,hTI,⟨u,v,hTO⟩,h1,h2⟩:=st
  exact ⟨k z (27:) _ hz,k TI (27:) _ hTI,⟨u,v,k TO (27:) _ hTO⟩,h1.at fun o e=>k i1 (27:) o e,h2.at fun o e=>k i2 (27:) o e⟩
 item:=by
  intro X hP hw hK hc i pins s σ H E I hf st hg
  subst hP hw hK
  obtain ⟨hz,hTI,⟨u0,v0,hTO⟩,h1,h2⟩:=st
  obtain ⟨qa,qb,lx,ly⟩:=hg
  obtain ⟨its,rv,p,_⟩:=I.tuple qa
  obtain ⟨its2,rv2,p2,_⟩:=I.tuple qb
  have ex:xs[i]?=some xs[i]:=List.getElem?_eq_getElem lx
  have ey:ys[i]?=some ys[i]:=List.getElem?_eq_getElem ly
  obtain ⟨u,hu,ru⟩:=rv.get ex
  obtain ⟨v,hv,rv'⟩:=rv2.get ey
  refine YS Ap hz hTI hTO h1 h2 p p2 (p:=u) (q:=v) (by simpa using hu) (by simpa using hv) fun h' a1 a2 a3 a4 a5 hk=>?_
  refine ⟨.ref s.heap.objs.size,rfl,wpAny_letOwnedTupleGo_zip (s:={ s with heap:=h' }) a1 fun h'' hz' hs'=>?_⟩
  have lt:∀ {c o},s.heap.get? c=some o→c≠s.heap.objs.size:=fun e=>Nat.ne_of_lt (Heap.lt_size e)
  have e5:IsPair h'' s.heap.objs.size u v:=(hs'.2 _ (Ne.symm (lt hz))).trans a5
  have hch:∀ c ∈ [z,TO,i1,i2],Yz X pins H c:=fun c hc=>hf c (by
   simp only [List.mem_cons,List.mem_nil_iff,or_false] at hc ⊢
   rcases hc with rfl | rfl | rfl | rfl <;> simp)
  have I2:Inv X pins σ (upd H s.heap.objs.size (.tup [xs[i],ys[i]])) { s with heap:=h'',toks:=s.toks }:=by
   refine I.turnedNew (ch:=[z,TO,i1,i2]) (fun c o hc e=>?_) hch (9:) ⟨by show 2≤sizeLine;decide,[u,v],.cons ru (.cons rv' .nil),⟨_,e5,rfl,_,rfl⟩⟩
   simp only [List.mem_cons,List.mem_nil_iff,or_false,not_or] at hc
   exact (hs'.2 c hc.1).trans (hk c o hc.1 hc.2.1 hc.2.2.1 hc.2.2.2 e)
  have hfr:∀ c ∈ [z,TI,TO,i1,i2],upd H s.heap.objs.size (.tup [xs[i],ys[i]]) c=none:=fun c hc=>by
   have hc2:=hf c hc
   have:c≠s.heap.objs.size:=by
    simp only [List.mem_cons,List.mem_nil_iff,or_false] at hc
    rcases hc with rfl | rfl | rfl | rfl | rfl
    ·exact lt hz
    ·exact lt hTI
    ·exact lt hTO
    ·obtain ⟨o,e,_⟩:=h1;exact lt e
    ·obtain ⟨o,e,_⟩:=h2;exact lt e
   rw [Qj this];exact hc2.1
  exact ⟨.ref s.heap.objs.size,_,I2,rfl,⟨s.heap.objs.size,_,_,I.fresh,rfl,rfl,ex,ey⟩,⟨hz',hs'.extBut _ _ Ap.TIz (hk _ _ Ap.TIz Ap.TITO Ap.TIi1 Ap.TIi2 hTI),⟨_,_,hs'.extBut _ _ Ap.TOz a2⟩,a3.extBut hs'.extBut Ap.i1z,a4.extBut hs'.extBut Ap.i2z⟩,hfr⟩
 done:=by
  intro X hP hw hK hc i pins s σ H E I hf st hg
  subst hP hw hK
  obtain ⟨hz,hTI,⟨u0,v0,hTO⟩,h1,h2⟩:=st
  obtain ⟨qa,hl⟩:=hg
  obtain ⟨its,rv,p,_⟩:=I.tuple qa
  have l1:=rv.length
  have hch:∀ c ∈ [z,TO,i1,i2],Yz X pins H c:=fun c hc=>hf c (by
   simp only [List.mem_cons,List.mem_nil_iff,or_false] at hc ⊢
   rcases hc with rfl | rfl | rfl | rfl <;> simp)
  refine Uh (n2:=0) (I.ok.hd hc) Ap hz hTI hTO h1 p (by simp;lia) fun h' hk=>⟨rfl,I.turnedL (t':=s.toks) (ch:=[z,TO,i1,i2]) (fun c o hc e=>?_) hch⟩
  simp only [List.mem_cons,List.mem_nil_iff,or_false,not_or] at hc
  exact hk c o hc.1 hc.2.1 hc.2.2.1 hc.2.2.2 e
 self:=fun _ _ _ _ _ st h=>wpAny_pyIter_zip st.1 h
section
variable {X:Cx} {elts:List Expr} {k1:Nat} {tpos:Pos}
def OF (K:PySem.W.Frag) (ta:TA):TI:=fun σ H R=>ta σ H fun vs H1=>∃ a b xs ys,vs=[.ref a,.ref b]∧SqT K H1 a xs∧SqT K H1 b ys∧R (Gk K a b xs ys) H1
theorem WV {e1 e2:Expr} {ta:TA} {p pos:Pos} (hg:Gl X "zip") (hm:X.mg "zip" = none) (ha:PA X [e1,e2] ta) (hs:starEach [e1,e2] X.env=[(false,eval e1 X.env),(false,eval e2 X.env)]:=by rfl) (hs2:starEach [e2] X.env=[(false,eval e2 X.env)]:=by rfl) :
 PI X (.Tuple elts k1 tpos) (.Call (.Name "zip" p) [e1,e2] [] pos) (OF X.K ta):=by
 intro pins s σ H R I h
 refine Call_ (ZM I hg hm PyProof.Rows.boot_zip (PyProof.Rows.callWith_type1 (30:) (by rw [hs,hs2]) (by rw [hs2];rfl)))
 obtain ⟨a,b,xs,ys,e,qa,qb,q⟩:=q1
 subst e
 obtain ⟨u1,u2,e3,r3,r4⟩:=r1.two
 subst e3
 cases (show u1=Value.ref a from r3)
 cases (show u2=Value.ref b from r4)
 obtain ⟨its,rv,pl,_⟩:=I1.tuple qa
 obtain ⟨its2,rv2,pl2,_⟩:=I1.tuple qb
 have la:@LT.lt Nat _ a s1.heap.objs.size:=by obtain ⟨o,e,_⟩:=pl;exact Heap.lt_size e
 have lb:@LT.lt Nat _ b s1.heap.objs.size:=by obtain ⟨o,e,_⟩:=pl2;exact Heap.lt_size e
 refine VL pl pl2 fun h' hz hTI hTO h1 h2 hk=>?_
 refine wpAny_pyIter_zip hz ?_
 have I2:Inv X pins σ H1 { s1 with heap:=h' }:=I1.kept (t':=s1.toks) hk
 refine ⟨s1.heap.objs.size + 4,[s1.heap.objs.size + 4,s1.heap.objs.size + 2,s1.heap.objs.size + 3,s1.heap.objs.size,s1.heap.objs.size + 1],_,_,H1,rfl,I2,Vt a b (s1.heap.objs.size + 4) xs ys (s1.heap.objs.size + 2) (s1.heap.objs.size + 3) s1.heap.objs.size (s1.heap.objs.size + 1) ?_,⟨hz,hTI,⟨_,_,hTO⟩,h1,h2⟩,fun c hc=>?_,q⟩
 ·constructor <;> (refine nne ?_;lia)
 ·have hle:@LE.le Nat _ s1.heap.objs.size c:=by
   simp only [List.mem_cons,List.mem_nil_iff,or_false] at hc
   rcases hc with rfl | rfl | rfl | rfl | rfl <;> lia
  exact I1.fpOk hle (I1.hok.fresh hle)
end
end L2
namespace L2
open PySem PySem.Spec PyProof.Rows
theorem Lr (xs:List V) (k:Nat):cutV xs none (some (k:Int))=xs.take k:=by
 unfold cutV
 rw [HT.sIx_none,HT.sIx_nat,List.drop_zero,Nat.sub_zero]
 by_cases h:k≤xs.length
 ·rw [Nat.min_eq_left h]
 ·rw [Nat.min_eq_right (11:),List.take_of_length_le (9:),List.take_of_length_le (11:)]
theorem Md {n k:Nat} (h:k < n):ixN n (k:Int)=some k:=by
 unfold ixN
 rw [if_pos (11:),if_pos (11:)];simp
theorem Qz:sizeLine=16777216:=by decide
theorem MA {n:Nat} (h:n≤5000):n≤sizeLine:=by rw [Qz];lia
end L2
namespace K9
open PySem L2 TM
mutual
def isT (f:Str→Str→Option (List Str)):Tree Str→Str→Bool
 | .node n _ bs,k=>match f k n with
  | none=>false
  | some ss=>decide (ss.length=bs.length) && OS f bs ss
def OS (f:Str→Str→Option (List Str)):List (Tree Str)→List Str→Bool
 | [],ss=>ss.isEmpty
 | b :: bs,ss=>match ss with
  | []=>false
  | s :: r=>isT f b s && OS f bs r
end
mutual
def td:Tree Str→PyData
 | .node n m bs=>.tuple [.str n,.int m,.tuple (tds bs)]
def tds:List (Tree Str)→List PyData
 | []=>[]
 | t :: r=>td t :: tds r
end
mutual
theorem TrV.rd {K:PySem.W.Frag} {H:Hp}:∀ {v:V} {t:Tree Str},TrV K H v t→RdV K H v (td t)
 | _,_,.mk h1 h2 h3 _=>by
  simp only [td]
  exact .tup h1 (.cons (.str _) (.cons (.int _) (.cons (.tup h2 (TrAll.rd h3)) .nil)))
theorem TrAll.rd {K:PySem.W.Frag} {H:Hp}:∀ {vs:List V} {ts:List (Tree Str)},TrAll K H vs ts→RdAll K H vs (tds ts)
 | _,_,.nil=>by simp only [tds];exact .nil
 | _,_,.cons h t=>by simp only [tds];exact .cons (TrV.rd h) (TrAll.rd t)
end
def LayT (t:Tree Str):Prop:=(td t).canLay0=true
theorem W2:∀ ts:List (Tree Str),(∀ t ∈ ts,LayT t)→PyData.canLayAll0 (tds ts)=true
 | [],_=>by simp [tds,PyData.canLayAll0]
 | t :: r,h=>by
  have h1:(td t).canLay0=true:=h t List.mem_cons_self
  simp only [tds,PyData.canLayAll0,h1,W2 r fun u hu=>h u (47:),Bool.and_self]
theorem LayT.node {n:Str} {m:Int} {ts:List (Tree Str)} (hn:PyData.strOk n=true) (h:∀ t ∈ ts,LayT t):LayT (.node n m ts):=by
 unfold LayT
 simp only [td,PyData.canLay0,PyData.canLayAll0,hn,W2 ts h,Bool.and_self]
abbrev KdT:=Addr × Str × Addr × List PNx
def RowAt (K:PySem.W.Frag) (H:Hp) (t:PNx):Prop:=SqT K H t.1 [.str t.2.1,.ref t.2.2.1]∧SqT K H t.2.2.1 (t.2.2.2.map V.str)
def RowsL (K:PySem.W.Frag) (H:Hp) (lr:Addr) (rs:List PNx):Prop:=SqL K H lr (rs.map fun t=>V.ref t.1)∧∀ t ∈ rs,RowAt K H t
def WoodAt (K:PySem.W.Frag) (H:Hp) (w:Addr) (ks:List KdT):Prop:=SqL K H w (52:)∧∀ k ∈ ks,SqT K H k.1 [.str k.2.1,.ref k.2.2.1]∧RowsL K H k.2.2.1 k.2.2.2
theorem RowAt.same {K:PySem.W.Frag} {H H':Hp} {t:PNx} (g:Same H H') (h:RowAt K H t):RowAt K H' t:=⟨g.seqT h.1,g.seqT h.2⟩
theorem RowsL.same {K:PySem.W.Frag} {H H':Hp} {lr:Addr} {rs:List PNx} (g:Same H H') (h:RowsL K H lr rs):RowsL K H' lr rs:=⟨g.seq h.1,fun t ht=>(h.2 t ht).same g⟩
theorem WoodAt.same {K:PySem.W.Frag} {H H':Hp} {w:Addr} {ks:List KdT} (g:Same H H') (h:WoodAt K H w ks):WoodAt K H' w ks:=⟨g.seq h.1,fun k hk=>⟨g.seqT (h.2 k hk).1,(h.2 k hk).2.same g⟩⟩
structure RowsOk (rs:List PNx):Prop where
 nd:(rs.map fun t=>t.2.1).Nodup
 len:rs.length≤10
 nm:∀ r ∈ rs,PyData.strOk r.2.1=true
 kn:∀ r ∈ rs,∀ x ∈ r.2.2.2,PyData.strOk x=true
 kl:∀ r ∈ rs,r.2.2.2.length≤4
structure WoodOk (ks:List KdT):Prop where
 nd:(ks.map fun k=>k.2.1).Nodup
 len:ks.length≤10
 rows:∀ k ∈ ks,RowsOk k.2.2.2
def rowsK (ks:List KdT) (kind:Str):List PNx:=((ks.find? fun k=>decide (k.2.1=kind)).map fun k=>k.2.2.2).getD []
def rowK (ks:List KdT) (kind name:Str):Option (List Str):=((rowsK ks kind).find? fun r=>decide (r.2.1=name)).map fun r=>r.2.2.2
theorem YL {α:Type} (f:α→Str) (g:α→V) (z:Str):∀ l:List α,ZJ (l.map fun x=>((Sum.inr (f x):Key),g x)) (Sum.inr z)=(l.find? fun x=>decide (f x=z)).map g
 | []=>rfl
 | x :: r=>by
  rw [List.map_cons,List.find?_cons]
  by_cases e:f x=z
  ·rw [ZF (p:=((Sum.inr (f x):Key),g x)) (by rw [e]),decide_eq_true e];rfl
  ·rw [ZE (p:=((Sum.inr (f x):Key),g x)) (fun q=>e (by injection q)),decide_eq_false e]
   exact YL f g z r
theorem YI {ks:List KdT} (h:WoodOk ks) (kind:Str):RowsOk (rowsK ks kind):=by
 unfold rowsK
 cases e:ks.find? fun k=>decide (k.2.1=kind) with
 | none=>exact ⟨List.nodup_nil,Nat.zero_le _,fun r hr=>(nomatch hr),fun r hr=>(nomatch hr),fun r hr=>(nomatch hr)⟩
 | some k=>exact h.rows k (List.mem_of_find?_eq_some e)
def Oj (K:PySem.W.Frag) (H:Hp) (v:V):Option (List Str)→Prop
 | none=>v=.non
 | some ss=>∃ b,v=.ref b∧SqT K H b (ss.map V.str)
theorem Z2 {K:PySem.W.Frag} {H:Hp} {v:V} {t:Tree Str} (h:TrV K H v t):∃ a b vs name mark,v=.ref a∧t=.node name mark t.bs∧SqT K H a [.str name,.int mark,.ref b]∧SqT K H b vs∧TrAll K H vs t.bs∧vs.length≤1000:=by
 cases h with
 | mk h1 h2 h3 h4=>exact ⟨_,_,_,_,_,rfl,rfl,h1,h2,h3,h4⟩
end K9
namespace K11
open PySem L2 TM TT K9
def kpl:Lab→Bool
 | .call _ _=>false
 | .put _ k _=>k
mutual
def kp:Tm→Bool
 | .node l _ bs=>kpl l || kps bs
def kps:List Tm→Bool
 | []=>false
 | t :: r=>kp t || kps r
end
end K11
namespace L2
open PySem PySem.Spec PyProof.Rows PySem.W
section
variable {prog:Program} {w:World} {A:Around} {E:Value→Shared→Prop} {s:Shared}
end
section
variable {X:Cx}
end
end L2
namespace L2
open PySem PySem.Spec PyProof.Rows
section
variable {prog:Program} {w:World} {A:Around} {E:Value→Shared→Prop} {s:Shared}
end
section
variable {X:Cx} {elts:List Expr} {k1:Nat} {tpos:Pos}
end
end L2
namespace L2
open PySem PySem.Spec PyProof.Rows PySem.W
theorem YN:∀ {ss:List Str} {us:List Value},Vals (ss.map V.str) us→StrsAre us ss
 | [],_,.nil=>.nil
 | x :: r,_,.cons h t=>by
  obtain ⟨k,rfl⟩:=(show ∃ t,_=Value.str x t from h)
  exact .cons x k (YN t)
section
variable {X:Cx}
theorem WZ:MtR X "str.join" (fun x vs H Q=>∃ (sep:Str) (l:Addr) (ss:List Str),x=.str sep∧vs=[.ref l]∧SqL X.K H l (ss.map V.str)∧(ss.map (·.length)).sum + ss.length * sep.length≤16777216∧Q (.str (Txt.join sep ss)) H):=by
 intro pins s σ H x xs v us Q I rx rv h
 obtain ⟨sep,l,ss,rfl,rfl,hl,hz,q⟩:=h
 obtain ⟨t,rfl⟩:=(show ∃ t,v=Value.str sep t from rx)
 obtain ⟨u,rfl,ru⟩:=rv.one
 obtain rfl:u=Value.ref l:=ru
 obtain ⟨its,r,p,_⟩:=I.list hl
 exact join_list p.isList (YN r) hz fun t' k=>⟨.str _,H,I.tok _,⟨_,rfl⟩,q⟩
end
section
variable {prog:Program} {w:World} {A:Around} {E:Value→Shared→Prop} {s:Shared}
end
section
variable {X:Cx} {tg:Expr}
end
end L2
namespace K61
open PySem L2 TM TT K9 K11
def top (i:Nat):Stmt:=PySem.Challenge.pw_turnery_k61_where_outcomes_stray.main.body.getD i (.Pass ⟨0,0,0,0⟩)
abbrev Nd:Stmt:=top 4
abbrev sAt:Stmt:=top 6
abbrev WE:Stmt:=top 7
abbrev GZ:Stmt:=top 8
abbrev XQ:Stmt:=top 9
abbrev JU:Stmt:=top 11
abbrev Lg:Stmt:=top 12
abbrev X6:Stmt:=top 14
abbrev Wb:Stmt:=top 15
abbrev JE:Stmt:=top 16
abbrev J5:Stmt:=top 19
abbrev NZ:Stmt:=top 20
abbrev VW:Stmt:=top 23
abbrev WK:Stmt:=top 24
abbrev Wu:Stmt:=top 25
abbrev Wd:Stmt:=top 26
abbrev Vj:Stmt:=top 27
abbrev NE:Stmt:=top 28
abbrev Gr:Stmt:=top 29
abbrev Z9:Stmt:=top 30
abbrev X9:Stmt:=top 31
abbrev UG:Stmt:=top 32
abbrev Xo:Stmt:=top 33
abbrev J3:Stmt:=top 34
abbrev Lf:Stmt:=top 35
abbrev J7:Stmt:=top 36
abbrev Us:Stmt:=top 37
abbrev GS:Stmt:=top 38
abbrev GB:Stmt:=top 39
abbrev WA:Stmt:=top 40
abbrev Lq:Stmt:=top 41
abbrev GA:Stmt:=top 42
abbrev U2:Stmt:=top 43
abbrev Wq:Stmt:=top 44
abbrev XU:Stmt:=top 45
structure Gm (mg:Str→Option Value):Prop where
 len:mg "len" = none
 isi:mg "isinstance" = none
 int:mg "int" = none
 boo:mg "bool" = none
 str:mg "str" = none
 tup:mg "tuple" = none
 lst:mg "list" = none
 rng:mg "range" = none
 zip:mg "zip" = none
 dct:mg "dict" = none
 srt:mg "sorted" = none
 rev:mg "reversed" = none
 enu:mg "enumerate" = none
 max:mg "max" = none
theorem Yk {K:PySem.W.Frag} {H:Hp} {v:V} {t:Tm} (h:TmV K H v t):(∃ a m b,v=.ref a∧t=leaf m b∧SqT K H a [.str XS,.int m,.int b]) ∨
 ∃ a b vs n k ad,v=.ref a∧t=.node (.put n k ad) 0 t.bs∧SqT K H a [.str PUT,.str n,.bl k,.int ad,.ref b]∧SqT K H b vs∧TmAll K H vs t.bs∧vs.length≤1000:=by
 cases h with
 | call h=>exact .inl ⟨_,_,_,rfl,rfl,h⟩
 | put h1 h2 h3 h4=>exact .inr ⟨_,_,_,_,_,_,rfl,rfl,h1,h2,h3,h4⟩
def XZ (K:PySem.W.Frag):Sp:=fun vs H Q _=>∃ (a:Addr) (z:Str) (r:List V),vs=[.ref a]∧SqT K H a (.str z :: r)∧Q (.bl (decide (z=XS))) H
def Z8 (K:PySem.W.Frag):Sp:=fun vs H Q _=>∃ (w:Addr) (kind:Str) (ks:List KdT) (k:KdT),vs=[.ref w,.str kind]∧WoodAt K H w ks∧WoodOk ks∧ks.find? (fun k=>decide (k.2.1=kind))=some k∧∀ (H':Hp),Same H H'→Q (.ref k.2.2.1) H'
def JF (K:PySem.W.Frag):Sp:=fun vs H Q _=>∃ (a:Addr) (ns:List Int) (k:Int),vs=[.ref a,.int k]∧0≤k∧SqL K H a (ns.map V.int)∧∀ c:Int,Q (.int c) H
abbrev MM:Int:=2147483647
def ZX:Sp:=fun vs H Q _=>∃ (c k:Int),vs=[.int c,.int k]∧0≤k∧k < 1000000∧∀ x:Int,0≤x→x < MM→Q (.int x) H
def Ut:Sp:=fun vs H Q _=>∃ c:Int,vs=[.int c]∧∀ x:Int,Q (.int x) H
theorem ZV {xs:List V} {k:Int} (hk:k=(xs.length:Int)) (h:0 < xs.length) (n:Int):∃ v ∈ xs,atI xs (n % k)=some v:=by
 subst hk
 have x0:0≤n % (xs.length:Int):=Int.emod_nonneg _ (11:)
 have x1:n % (xs.length:Int) < (xs.length:Int):=Int.emod_lt_of_pos _ (11:)
 obtain ⟨y,hy⟩ : ∃ y:Nat,n % (xs.length:Int)=(y:Int):=⟨_,(Int.toNat_of_nonneg x0).symm⟩
 have hyl:y < xs.length:=by lia
 exact ⟨xs[y],List.getElem_mem hyl,by rw [hy];exact Qy (List.getElem?_eq_getElem hyl)⟩
def YA:Sp:=fun vs H Q _=>∃ i:Int,vs=[.int i]∧Q (.bl true) H
section
variable {P:Program} {w:World} {K:PySem.W.Frag} {mg:Str→Option Value} {base:Heap} {f:Addr} {fd:FuncData}
theorem Oh:FnScope ["term"] ["term"] (defScope Nd):=(1:)
theorem M3 (F:Fun K "is_call" "is_call" Nd f fd):FnOk P w K mg base CX0 1 f fd ["term"] (XZ K):=by
 refine F.ok Oh (8:) (4:)
 ·obtain ⟨a,z,r,rfl,_⟩:=h
  rfl
 obtain ⟨a,z,r,rfl,h1,q⟩:=h
 refine ⟨_,(Qh (Qo (Z1 Q1 (45:) Zx (Qt _)))),?_⟩
 refine ⟨_,rfl,a,_,0,.str z,rfl,rfl,h1,Qy (j:=0) rfl,rfl,?_⟩
 show Q (.bl (decide (V.str z=V.str XS))) H
 by_cases e:z=XS
 ·rw [decide_eq_true e] at q
  rw [decide_eq_true (by rw [e])];exact q
 ·rw [decide_eq_false e] at q
  rw [decide_eq_false (fun h=>e (by injection h))];exact q
theorem Gg:FnScope ["wood", "kind"] ["wood", "kind"] (defScope JU):=(1:)
theorem VQ (F:Fun K "rows_of" "rows_of" JU f fd) (G:Gm mg):FnOk P w K mg base CX0 1 f fd ["wood", "kind"] (Z8 K):=by
 refine F.ok Gg (8:) (4:)
 ·obtain ⟨w,kind,ks,k,rfl,_⟩:=h
  rfl
 obtain ⟨wd,kind,ks,k0,rfl,hW,hO,hk0,q⟩:=h
 refine ⟨_,(Qh (Qo (Lo (Ze hr) (QE (QZ rfl) rfl G.dct PyProof.Rows.boot_dict (Qa (pv 0) Qd)) (pv 1) (QM Qd) ⟨rfl,rfl,rfl,rfl⟩))),?_⟩
 have hlen:=hO.len
 refine ⟨_,rfl,wd,ks.map (fun k=>(k.1,k.2.1,V.ref k.2.2.1)),rfl,(by rw [List.map_map];exact hW.1),fun t ht=>?_,(by rw [List.map_map];exact hO.nd),(15:),fun d hd=>⟨d,rfl,.inl ⟨_,.inl Qc⟩,_,rfl,(16:),fun p hp=>⟨_,DGet.k (k:=Sum.inr kind) ((Qf hp _) _ _ Qc),?_⟩⟩⟩
 ·obtain ⟨k,hk,rfl⟩:=List.mem_map.mp ht
  exact (hW.2 k hk).1
 ·have g1:=Qf hd (.dK ((ks.map (fun k=>(k.1,k.2.1,V.ref k.2.2.1))).map fun t=>(54:)))
  have g2:=Qf hp (.lst [])
  have g12:=g1.trans g2
  have ev:ZJ ((ks.map (fun k=>(k.1,k.2.1,V.ref k.2.2.1))).map fun t=>(54:)) (Sum.inr kind)=(ks.find? fun k=>decide (k.2.1=kind)).map fun k=>V.ref k.2.2.1:=by
   rw [List.map_map]
   exact YL (fun k:KdT=>k.2.1) (fun k=>V.ref k.2.2.1) kind ks
  rw [ev]
  rw [hk0]
  exact q _ g12
theorem NI:FnScope ["_law_script", "_law_k"] ["_law_script", "_law_k"] (defScope VW):=(1:)
theorem LK (F:Fun K "_law_cell_at" "_law_cell_at" VW f fd) (G:Gm mg):FnOk P w K mg base CX0 1 f fd ["_law_script", "_law_k"] (JF K):=by
 refine F.ok NI (8:) (4:)
 ·obtain ⟨a,ns,k,rfl,_⟩:=h
  rfl
 obtain ⟨a,ns,k,rfl,hk0,hS,q⟩:=h
 obtain ⟨j,rfl⟩ : ∃ j:Nat,k=(j:Int):=⟨k.toNat,by lia⟩
 refine ⟨_,(Qe (QF (Qp Jn (pv 1) (Qr Qn rfl G.len PySem.boot_len (Qa (pv 0) Qd)) (Qt _)) (Qh (Qo (Qi Qx (pv 0) (pv 1) (3:)))) Qu)
  (Qh (Qo Qb))),?_⟩
 refine ⟨_,rfl,_,rfl,a,_,rfl,.inl hS,_,_,rfl,rfl,_,rfl,Yl (fun c=>?_) (fun c=>?_)⟩
 ·have c':(j:Int) < (((ns.map V.int).length:Nat):Int):=of_decide_eq_true c
  rw [List.length_map] at c'
  have hk:j < ns.length:=by lia
  exact ⟨_,rfl,_,rfl,a,_,j,.int ns[j],rfl,rfl,hS,Qy (by rw [List.getElem?_map,List.getElem?_eq_getElem hk];rfl),q _⟩
 ·exact q 0
theorem L6:FnScope ["_law_found"] ["_law_found"] (defScope WA):=(1:)
theorem Gp (F:Fun K "_law_whole" "_law_whole" WA f fd) (G:Gm mg):FnOk P w K mg base CX0 1 f fd ["_law_found"] YA:=by
 refine F.ok L6 (8:) (4:)
 ·obtain ⟨i,rfl,_⟩:=h
  rfl
 obtain ⟨i,rfl,q⟩:=h
 refine ⟨_,(Qh (Qo (UI (Qr Zu rfl G.isi PyProof.Rows.boot_isinstance (Qa (pv 0) (Qa (Zw (v:=.ty "int") rfl G.int PyProof.Rows.boot_int rfl) Qd))) (UV (G8 (Qr Zu rfl G.isi PyProof.Rows.boot_isinstance (Qa (pv 0) (Qa (Zw (v:=.ty "bool") rfl G.boo PyProof.Rows.boot_bool rfl) Qd)))))))),?_⟩
 exact ⟨_,rfl,_, "int", _,true,rfl,.int _,rfl,_,rfl,Q8 ⟨_,rfl,_, "bool", _,false,rfl,.int _,rfl,_,rfl,q⟩⟩
theorem J6:FnScope ["_law_cell", "_law_k", "_law_number"] ["_law_cell", "_law_k"] (defScope WK):=(1:)
theorem Gi (F:Fun K "_law_mixed" "_law_mixed" WK f fd):FnOk P w K mg base CX0 1 f fd ["_law_cell", "_law_k"] ZX:=by
 refine F.ok J6 (8:) (4:)
 ·obtain ⟨c,k,rfl,_⟩:=h
  rfl
 obtain ⟨c,k,rfl,k0,k1,q⟩:=h
 refine ⟨_,(Qe (Ql (i:=2) J6.nd rfl (7:) (Qm QK (Qm QD (pv 0) Qb) (Qm ZR Qb (Qm QK (pv 1) Qb))))
  (Qe (Ql (i:=2) J6.nd rfl (7:) (Qm QD (Qm QK (Qm ZR (pv 2) (pv 2)) (Qm ZR Qb (pv 1))) Qb))
  (Qh (Qo (Qm QD (Qm QK (Qm QK (Qm ZR (pv 2) (pv 2)) (Qm ZR Qb (pv 1))) Qb) Qb))))),?_⟩
 refine ⟨_,rfl,_,_,rfl,rfl,(by show (0:Int) < 2147483647;decide),_,rfl,_,_,rfl,rfl,_,_,rfl,rfl,.inl (21:),_,_,rfl,rfl,?_⟩
 dsimp only
 have a0:0≤c % 2147483647:=Int.emod_nonneg _ (18:)
 have a1:c % 2147483647 < 2147483647:=Int.emod_lt_of_pos _ (18:)
 generalize hx:c % 2147483647 + 48271 * (k + 1)=x
 refine ⟨_,rfl,_,rfl,_,_,rfl,rfl,.inl ⟨by lia,by lia⟩,_,rfl,_,_,rfl,rfl,.inl (21:),_,_,rfl,rfl,_,_,rfl,rfl,(by show (0:Int) < 2147483647;decide),?_⟩
 dsimp only
 generalize hy:(x * x + 69621 * k) % 2147483647=y
 have b0:0≤y:=by rw [← hy];exact Int.emod_nonneg _ (18:)
 have b1:y < 2147483647:=by rw [← hy];exact Int.emod_lt_of_pos _ (18:)
 refine ⟨_,rfl,_,rfl,_,_,rfl,rfl,.inl ⟨by lia,by lia⟩,_,rfl,_,_,rfl,rfl,.inl (21:),_,_,rfl,rfl,_,_,rfl,rfl,_,_,rfl,rfl,(by show (0:Int) < 2147483647;decide),?_⟩
 exact q _ (Int.emod_nonneg _ (18:)) (Int.emod_lt_of_pos _ (18:))
theorem Mq:FnScope ["_law_cell"] ["_law_cell"] (defScope Wd):=(1:)
theorem GP (F:Fun K "_law_great" "_law_great" Wd f fd):FnOk P w K mg base CX0 1 f fd ["_law_cell"] Ut:=by
 refine F.ok Mq (8:) (4:)
 ·obtain ⟨c,rfl,_⟩:=h
  rfl
 obtain ⟨c,rfl,q⟩:=h
 refine ⟨_,(Qh (Qo (Qm ZS (Qm QD (pv 0) (Qm QK (Qm ZR Qb (Qm G3 Qb Qb)) Qb)) (Qm G3 Qb Qb)))),?_⟩
 exact ⟨_,rfl,_,_,rfl,rfl,⟨by decide,by decide,by decide⟩,_,_,rfl,rfl,.inl (21:),_,_,rfl,rfl,_,_,rfl,rfl,(by show (0:Int) < 2 * 10 ^ 59 + 1;decide),_,_,rfl,rfl,⟨by decide,by decide,by decide⟩,_,_,rfl,rfl,q _⟩
end
end K61
namespace K61
open PySem L2 TM TT K9 K11
theorem Xq (cs:List Nat):Txt.join (S []) (cs.map fun c=>S [c])=S cs:=by
 unfold Txt.join
 cases cs with
 | nil=>rfl
 | cons x r =>
  have h:∀ (r:List Nat) (a:List Nat),(r.map fun c=>S [c]).foldl (fun acc p=>acc ++ (S []).cps ++ p.cps) (S a).cps=(S (a ++ r)).cps:=by
   intro r
   induction r with
   | nil=>intro a;simp
   | cons y r ih =>
    intro a
    rw [List.map_cons,List.foldl_cons]
    have e:(S a).cps ++ (S []).cps ++ (S [y]).cps=(S (a ++ [y])).cps:=by simp [S]
    rw [e,ih,List.append_assoc];rfl
  have:=h r [x]
  show (⟨(r.map fun c=>S [c]).foldl (fun acc p=>acc ++ (S []).cps ++ p.cps) (S [x]).cps⟩ : Str)=_
  rw [this];rfl
abbrev JW:Str:=Str.ofString "abcdefghijklmnopqrstuvwxyz"
def ZK:List Nat:=[97,98,99,100,101,102,103,104,105,106,107,108,109,110,111,112,113,114,115,116,117,118,119,120,121,122]
theorem Gj:JW=S ZK:=by decide +kernel
theorem MG:JW.cps.toList=ZK:=by rw [Gj,Ga]
theorem JZ:Str.ofString "" = S []:=by decide +kernel
def Nm (z:Str):Prop:=PyData.strOk z=true
theorem Nm.of {u:List Nat} (h:∀ c ∈ u,c < 128):Nm (S u):=by
 unfold Nm PyData.strOk
 rw [Array.all_eq_true_iff_forall_mem]
 intro c hc
 have:c ∈ u:=by simpa [S] using hc
 have:=h c this
 simp;lia
theorem GG {i j:Nat} (hi:i < 26) (hj:j < 26) (e:ZK.getD i 0=ZK.getD j 0):i=j:=by
 have hn:ZK.Nodup:=by decide
 have h1:ZK.getD i 0=ZK[i]'hi:=by rw [List.getD_eq_getElem?_getD,List.getElem?_eq_getElem (show i < ZK.length from hi)];rfl
 have h2:ZK.getD j 0=ZK[j]'hj:=by rw [List.getD_eq_getElem?_getD,List.getElem?_eq_getElem (show j < ZK.length from hj)];rfl
 rw [h1,h2] at e
 exact (List.getElem_inj hn).mp e
theorem X1 {i:Nat} (hi:i < 26):ZK.getD i 0 ∈ ZK∧ZK[i]?=some (ZK.getD i 0):=by
 have hl:i < ZK.length:=hi
 have e:ZK.getD i 0=ZK[i]:=by rw [List.getD_eq_getElem?_getD,List.getElem?_eq_getElem hl];rfl
 rw [e]
 exact ⟨List.getElem_mem hl,List.getElem?_eq_getElem hl⟩
theorem Wm:∀ c ∈ ZK,c < 128:=by decide
def code (j:Nat):Nat:=ZK.getD j 0
abbrev MY (K:PySem.W.Frag):V→List V→Hp→VK→Prop:=fun x vs H Q=>∃ (sep:Str) (l:Addr) (ss:List Str),x=.str sep∧vs=[.ref l]∧SqL K H l (ss.map V.str)∧(ss.map (·.length)).sum + ss.length * sep.length≤16777216∧Q (.str (Txt.join sep ss)) H
abbrev NV (bs:List Nat):List V:=bs.map fun (b:Nat)=>V.int (b:Int)
theorem Ny {X:Cx} {K:PySem.W.Frag} {o e:Expr} {es:List Expr} {to:TE} {t:TA} {name:Str} {apos cpos:Pos} {T id:String} {r:V→List V→Hp→VK→Prop} (hK:X.K=K) (pa:PlainAttrs T) (slot:Slot T name id) (hty:typeOf (.builtin id)=pure (.type "method_descriptor")) (hm:MtR X id r) (ho:PE X o to) (ha:PA X (e :: es) t)
 (hbase:attributeBase o name X.env (eval o X.env)=eval o X.env:=by rfl)
 (hfew:((backTo cpos (starEach (e :: es) X.env)).all (fun x=>!x.1) && (backToKw cpos (keywordEach [] X.env)).all (fun x=>x.1.isSome)
  && decide ((e :: es).length + ([]:List Keyword).length + (if ([]:List Keyword).isEmpty then 0 else 1) < 30))=true:=by rfl)
 (hline:(apos.endLine == cpos.line)=true:=by rfl) (hs:starEach (e :: es) X.env=(false,eval e X.env) :: starEach es X.env:=by rfl) (hplain:(backTo cpos (starEach es X.env)).any (·.1)=false:=by rfl) :
 PE X (.Call (.Attribute o name apos) (e :: es) [] cpos) (tBM K T r to t):=by
 subst hK
 exact Zo pa slot hty hm ho ha hbase hfew hline hs hplain
theorem G2 {X:Cx} {K:PySem.W.Frag} {tg l:Expr} {tl:TE} (hK:X.K=K) (hl:PE X l tl):PI X tg l (MW K tl):=by
 subst hK
 exact QO hl
theorem Jv {α:Type} (g:Nat→α) (n:Nat) (h:∀ i j,i < n→j < n→g i=g j→i=j):((List.range n).map g).Nodup:=by
 rw [List.Nodup,List.pairwise_map]
 refine (List.nodup_range (n:=n)).imp_of_mem fun {a b} ha hb hne e=>hne (h a b (List.mem_range.mp ha) (List.mem_range.mp hb) e)
theorem WW {bs:List Nat} (h:∀ b ∈ bs,b < 26):PyData.strOk (S (bs.map code))=true:=Nm.of fun c hc=>by
 obtain ⟨b,hb,rfl⟩:=List.mem_map.mp hc
 exact Wm _ (X1 (h b hb)).1
theorem Ux {cs:List Nat} (h:cs.length≤8):((cs.map fun c=>S [c]).map (·.length)).sum + (cs.map fun c=>S [c]).length * (S []).length≤16777216:=by
 have e:((cs.map fun c=>S [c]).map (·.length))=cs.map fun _=>1:=by
  rw [List.map_map]
  exact List.map_congr_left fun c _=>by simp [Ln]
 have e2:(cs.map fun _=>1).sum=cs.length:=by
  clear e h
  induction cs with
  | nil=>rfl
  | cons x r ih=>rw [List.map_cons,List.sum_cons,ih,List.length_cons];lia
 rw [e,e2,Ln]
 simp only [List.length_nil,Nat.mul_zero]
 lia
theorem NH {y:Nat} (hy:y < 26):atI JW.cps.toList ((y:Nat):Int)=some (code y):=by rw [MG];exact Qy (X1 hy).2
def J0 (K:PySem.W.Frag):Sp:=fun vs H Q _=>∃ c:Int,vs=[.int c]∧∀ (l:Addr) (H':Hp) (ns:List Str),Same H H'→H' l=some (.lst (ns.map V.str))→ns.length=8→ns.Nodup→(∀ n ∈ ns,PyData.strOk n=true)→Q (.ref l) H'
section
variable {P:Program} {w:World} {K:PySem.W.Frag} {mg:Str→Option Value} {base:Heap} {f:Addr} {fd:FuncData}
theorem Zv:FnScope ["_law_cell", "_law_letters", "_law_base", "_law_width", "_law_spot", "_law_names_here", "_law_k", "_law_moved"] ["_law_cell"] (defScope Wu):=(1:)
theorem GY (F:Fun K "_law_names" "_law_names" Wu f fd) (G:Gm mg) (RM:Fn P w K mg base 1 "_law_mixed" ["_law_cell", "_law_k"] ZX):FnOk P w K mg base CX0 2 f fd ["_law_cell"] (J0 K):=by
 refine F.ok Zv (8:) (4:)
 ·obtain ⟨c,rfl,_⟩:=h
  rfl
 obtain ⟨c,rfl,q⟩:=h
 refine ⟨_,(Qe (Ql (i:=1) Zv.nd rfl (Or.inr rfl) Zx)
  (Qe (Ql (i:=2) Zv.nd rfl (Or.inr rfl) (Q6 (CompG.many (xs:=["_law_j"]) (caps:=["_law_cell"]) (cap:=[0]) (cs:=[_]) rfl rfl (0:) (0:) (0:) (0:) (0:) (0:) rfl rfl rfl) rfl (QU rfl G.rng (Qa (Qb) Qd)) (Z4 (CompG.many (xs:=["_law_j"]) (caps:=["_law_cell"]) (cap:=[0]) (cs:=[_]) rfl rfl (0:) (0:) (0:) (0:) (0:) (0:) rfl rfl rfl)) (fun _ _ _ _=>ZB) (fun _ _ _ _=>Qm (r:=rI (fun _ j=>0 < j) fun i j=>.int (i % j)) QD (Qs RM hr (Qa (pv 1) (Qa (pv 0) Qd))) Qb)))
  (Qe (QF (Qp Q1 (Qm QD (Qm QT (pv 0) Qb) Qb) Qb (Qt _)) (Qh (Qo (Q6 (CompG.many (xs:=["_law_k"]) (caps:=["_law_base", "_law_letters"]) (cap:=[2,1]) (cs:=[_,_]) rfl rfl (0:) (0:) (0:) (0:) (0:) (0:) rfl rfl rfl) rfl (QU rfl G.rng (Qa (Qb) Qd)) (Z4 (CompG.many (xs:=["_law_k"]) (caps:=["_law_base", "_law_letters"]) (cap:=[2,1]) (cs:=[_,_]) rfl rfl (0:) (0:) (0:) (0:) (0:) (0:) rfl rfl rfl)) (fun _ _ _ _=>ZB)
   (fun _ _ _ _=>Ny (K:=K) (r:=MY K) rfl PySem.F.plainAttrs_str PySem.F.slot_str_join PySem.F.type_str_join WZ Zx (Qa (Q6 (CompG.many (xs:=["_law_j"]) (caps:=["_law_letters"]) (cap:=[2]) (cs:=[_]) rfl rfl (0:) (0:) (0:) (0:) (0:) (0:) rfl rfl rfl) rfl (G2 (K:=K) rfl (Zp (r:=OC K) JX (pv 1) ZT (ZZ (Qm (r:=rI0 fun i j=>.int (i + j)) QK (pv 0) Qb)))) (Z4 (CompG.many (xs:=["_law_j"]) (caps:=["_law_letters"]) (cap:=[2]) (cs:=[_]) rfl rfl (0:) (0:) (0:) (0:) (0:) (0:) rfl rfl rfl)) (fun _ _ _ _=>ZB) (fun _ _ _ _=>Qi V6 (pv 1) (pv 0) (3:))) Qd))))) Qu)
  (Qe (Ql (i:=3) Zv.nd rfl (7:) (Qm QK Qb (Qm QD (pv 0) Qb)))
  (Qe (Ql (i:=4) Zv.nd rfl (7:) (Qm QD (Qm QT (pv 0) Qb) (pv 3)))
  (Qe (Ql (i:=5) Zv.nd rfl (7:) (QM Qd))
  (Qe (QL PassesOwn.never rfl (QU rfl G.rng (Qa (Qb) Qd)) (Qq (i:=6) Zv.nd rfl (7:)) (Qe (Ql (i:=7) Zv.nd rfl (7:) (Zp JX (pv 2) ZT (ZZ (pv 3))))
  (Qe (JM (Qm QD (Qm QK (Qi Qx (pv 7) (pv 4) (3:)) (pv 6)) Qb) (NG (pv 7) (pv 4) VZ))
  (Qh (QJ (Zo PySem.F.plainAttrs_list PySem.F.slot_list_append PySem.F.type_list_append QR (pv 5) (Qa (Zo (r:=MY K) PySem.F.plainAttrs_str PySem.F.slot_str_join PySem.F.type_str_join WZ Zx (Qa (Q6 (CompG.many (xs:=["_law_j"]) (caps:=["_law_letters"]) (cap:=[1]) (cs:=[_]) rfl rfl (0:) (0:) (0:) (0:) (0:) (0:) rfl rfl rfl) rfl (QO (pv 7)) (Z4 (CompG.many (xs:=["_law_j"]) (caps:=["_law_letters"]) (cap:=[1]) (cs:=[_]) rfl rfl (0:) (0:) (0:) (0:) (0:) (0:) rfl rfl rfl)) (fun _ _ _ _=>ZB) (fun _ _ _ _=>Qi V6 (pv 1) (pv 0) (3:))) Qd)) Qd)))))))
  (Qh (Qo (pv 5)))))))))),?_⟩
 have eL:Str.ofString "abcdefghijklmnopqrstuvwxyz" = JW:=rfl
 refine ⟨8,rfl,by decide,by decide,fun lb hlb=>?_⟩
 refine U6 (lo:=0) (n:=8) (cs:=[some (.int c)]) (tt:=fun _ H Q=>Q true H) (fun j ys H'=>∃ bs:List Nat,ys=NV bs∧bs.length=j∧(∀ b ∈ bs,b < 26)∧H' lb=some (.lst ys)∧Same H H')
  ⟨[],rfl,rfl,fun b hb=>(nomatch hb),Qc,Qf hlb _⟩ ?_ ?_
 ·rintro j ys H' hj ⟨bs,rfl,hbl,hb26,hy,g⟩
  refine Q8 ⟨_,rfl,_,rfl,c,0 + (j:Int),rfl,by lia,by lia,fun x x0 x1=>⟨_,_,rfl,rfl,(by show (0:Int) < 26;decide),?_⟩⟩
  have y0:0≤x % 26:=Int.emod_nonneg _ (18:)
  have y1:x % 26 < 26:=Int.emod_lt_of_pos _ (18:)
  refine QI hj hy (15:) ⟨bs ++ [(x % 26).toNat],?_,by rw [List.length_append,List.length_singleton,hbl],fun b hb=>?_,Qc,fun z u e=>?_⟩
  ·unfold NV
   rw [List.map_append]
   show _ ++ [V.int (x % 26)]=_ ++ [V.int (((x % 26).toNat:Nat):Int)]
   rw [Int.toNat_of_nonneg y0]
  ·rcases List.mem_append.mp hb with hb | hb
   ·exact hb26 b hb
   ·have:b=(x % 26).toNat:=by simpa using hb
    rw [this];lia
  ·rw [Qj (Qk e hlb)];exact g _ _ e
 rintro ys H1 ⟨bs,rfl,hbl,hb26,hlb1,g1⟩
 have word:∀ (us:List Nat) (l2 lu:Addr) (Hx:Hp) (R:Hp→Prop),Hx l2=none→Hx lu=some (.lst (NV us))→us.length≤8→(∀ b ∈ us,b < 26) →
  (∀ H',Same Hx H'→H' l2=some (.lst (((us.map code).map fun c=>S [c]).map V.str))→R H')→Jc (Itl K lu) 1 [some (.str JW)] (Zt 0) (fun _ H Q=>Q true H) (tOp Ob (ZI 1) (ZI 0)) Hx l2 R:=by
  intro us l2 lu Hx R h2 hu hul hu26 hR
  have hne:lu≠l2:=fun z=>by rw [z,h2] at hu;cases hu
  refine Yj (K:=K) (xs:=NV us) (cs:=[some (.str JW)]) (fun m ys H'=>ys=(((us.take m).map code).map fun c=>S [c]).map V.str∧H' l2=some (.lst ys)∧Same Hx H')
   ⟨rfl,Qc,Qf h2 _⟩ ?_ ?_ ?_
  ·rintro m ys H' _ ⟨_,_,g⟩
   exact SqL.of (g _ _ hu)
  ·rintro m x ys H' hm hx ⟨rfl,hy,g⟩
   have hml:m < us.length:=by simpa using hm
   obtain rfl:x=.int ((us[m]:Nat):Int):=by
    rw [List.getElem?_map,List.getElem?_eq_getElem hml] at hx
    exact (Option.some.inj hx).symm
   have hlt:=hu26 _ (List.getElem_mem hml)
   refine Q8 ⟨_,rfl,_,rfl,JW,_,_,rfl,rfl,(by rw [Gj,Ln];exact MA (18:)),NH hlt,?_⟩
   refine QI hm hy (by simp only [List.length_map,List.length_take];lia) ⟨?_,Qc,fun z u e=>?_⟩
   ·rw [List.take_add_one,List.getElem?_eq_getElem hml]
    simp only [Option.toList_some,List.map_append,List.map_cons,List.map_nil]
    rfl
   ·rw [Qj (Qk e h2)];exact g _ _ e
  ·rintro ys H' ⟨rfl,hy,g⟩
   rw [List.length_map,List.take_length] at hy
   exact hR H' g hy
 refine ⟨_,rfl,_,_,rfl,rfl,(21:),_,_,rfl,rfl,(by show (0:Int) < 4;decide),rfl,_,rfl,Yl (fun _=>?_) (fun _=>?_)⟩
 ·refine ⟨8,rfl,by decide,by decide,fun ln hln=>?_⟩
  refine U6 (lo:=0) (n:=8) (cs:=[some (.ref lb),some (.str JW)]) (tt:=fun _ H Q=>Q true H) (fun j ys H'=>ys=((List.range j).map fun k=>S ((bs.take (k + 1)).map code)).map V.str∧H' ln=some (.lst ys)∧Same H1 H')
   ⟨rfl,Qc,Qf hln _⟩ ?_ ?_
  ·rintro j ys H' hj ⟨rfl,hy,g⟩
   refine Q8 ⟨rfl,_,rfl,_,rfl,_,_,rfl,rfl,_,rfl,lb,_,rfl,SqL.of (g _ _ hlb1),fun ps hps=>⟨ps,rfl,⟨_,SqL.of Qc⟩,fun l2 hl2=>?_⟩⟩
   have ecut:cutV (NV bs) none (some (0 + (j:Int)+1))=NV (bs.take (j + 1)):=by
    rw [show (0:Int)+(j:Int)+1=((j + 1:Nat):Int) by lia,Lr];unfold NV;rw [List.map_take]
   have kp:=Qf hps (.lst (cutV (NV bs) none (some (0 + (j:Int)+1))))
   refine word (bs.take (j + 1)) l2 ps _ _ hl2 (by rw [← ecut];exact Qc) (by rw [List.length_take];lia) (fun b hb=>hb26 b (List.mem_of_mem_take hb)) fun H3 g3 h3=>?_
   have k3:=kp.trans g3
   refine ⟨S [],l2,_,by rw [← JZ],rfl,SqL.of h3,Ux (by rw [List.length_map,List.length_take];lia),?_⟩
   rw [Xq]
   refine QI hj (k3 _ _ hy) (by simp only [List.length_map,List.length_range];lia) ⟨?_,Qc,fun z u e=>?_⟩
   ·rw [List.range_succ,List.map_append,List.map_append];rfl
   ·rw [Qj (Qk e hln)];exact k3 _ _ (g _ _ e)
  ·rintro ys H' ⟨rfl,hy,g⟩
   refine q ln H' _ (g1.trans g) hy (27:) (Jv _ 8 fun i j hi hj e=>?_) fun x hx=>?_
   ·have:=congrArg List.length (M0 e)
    simp only [List.length_map,List.length_take] at this
    lia
   ·obtain ⟨k,_,rfl⟩:=List.mem_map.mp hx
    exact WW fun b hb=>hb26 b (List.mem_of_mem_take hb)
 have w0:0≤c % 8:=Int.emod_nonneg _ (18:)
 have w1:c % 8 < 8:=Int.emod_lt_of_pos _ (18:)
 refine ⟨_,rfl,_,_,rfl,rfl,(by show (0:Int) < 8;decide),_,_,rfl,rfl,?_⟩
 dsimp only
 obtain ⟨wi,hwi⟩ : ∃ wi:Nat,1 + c % 8=(wi:Int):=⟨(1 + c % 8).toNat,by lia⟩
 rw [hwi]
 have hwi0:0 < wi:=by lia
 have hwi8:wi≤8:=by lia
 refine ⟨_,rfl,_,_,rfl,rfl,(21:),_,rfl,_,_,rfl,rfl,(by show (0:Int) < (wi:Int);lia),?_⟩
 dsimp only
 have s0:0≤c / 8 % (wi:Int):=Int.emod_nonneg _ (11:)
 have s1:c / 8 % (wi:Int) < (wi:Int):=Int.emod_lt_of_pos _ (11:)
 obtain ⟨sp,hsp⟩ : ∃ sp:Nat,c / 8 % (wi:Int)=(sp:Int):=⟨(c / 8 % (wi:Int)).toNat,by lia⟩
 rw [hsp]
 have hspw:sp < wi:=by lia
 obtain ⟨bw,hbw⟩ : ∃ bw,bw=bs.take wi:=⟨_,rfl⟩
 have hbwl:bw.length=wi:=by rw [hbw,List.length_take];lia
 have hbw26:∀ b ∈ bw,b < 26:=fun b hb=>hb26 b (List.mem_of_mem_take (by rw [← hbw];exact hb))
 have hspl:sp < bw.length:=by lia
 refine ⟨(16:),fun ln hln=>?_⟩
 refine ⟨8,rfl,by decide,by decide,?_⟩
 refine Q7 (lo:=0) (n:=8) (fun j σ H'=>∃ c6 c7:Option V,σ=[some (.int c),some (.str JW),some (.ref lb),some (.int (wi:Int)),some (.int (sp:Int)),some (.ref ln),c6,c7]∧Same H1 H'∧H' ln=some (.lst (((List.range j).map fun k=>S ((bw.set sp ((bw[sp]+k) % 26)).map code)).map V.str)))
  ⟨none,none,rfl,Qf hln _,Qc⟩ ?_ ?_
 ·rintro j σ H' hj ⟨c6,c7,rfl,g,hy⟩
  refine ⟨_,rfl,_,rfl,_,rfl,lb,_,rfl,SqL.of (g _ _ hlb1),fun lm hlm=>?_⟩
  have ecut:cutV (NV bs) none (some (wi:Int))=NV bw:=by rw [Lr,hbw];unfold NV;rw [List.map_take]
  have km:=Qf hlm (.lst (cutV (NV bs) none (some (wi:Int))))
  have hlm2:upd H' lm (.lst (cutV (NV bs) none (some (wi:Int)))) lm=some (.lst (NV bw)):=by rw [← ecut];exact Qc
  have hlnm:ln≠lm:=fun z=>by rw [← z,hy] at hlm;cases hlm
  generalize upd H' lm (.lst (cutV (NV bs) none (some (wi:Int))))=H2 at km hlm2
  have hat:atI (NV bw) (sp:Int)=some (.int ((bw[sp]:Nat):Int)):=Qy (by rw [List.getElem?_map,List.getElem?_eq_getElem hspl];rfl)
  refine ⟨_,rfl,_,rfl,lm,_,_,_,rfl,rfl,SqL.of hlm2,hat,_,rfl,_,_,rfl,rfl,_,_,rfl,rfl,(by show (0:Int) < 26;decide),_,rfl,_,rfl,lm,NV bw,(sp:Int),sp,rfl,rfl,hlm2,Md (by rw [List.length_map];exact hspl),?_⟩
  have hset:(NV bw).set sp (.int ((((bw[sp]:Nat):Int)+(0 + (j:Int))) % 26))=NV (bw.set sp ((bw[sp]+j) % 26)):=by
   unfold NV
   rw [List.map_set]
   congr 2
   lia
  rw [hset]
  have hln3:upd H2 lm (.lst (NV (bw.set sp ((bw[sp]+j) % 26)))) ln=some (.lst (((List.range j).map fun k=>S ((bw.set sp ((bw[sp]+k) % 26)).map code)).map V.str)):=by rw [Qj hlnm];exact km _ _ hy
  refine ⟨_,rfl,.inl ⟨rfl,_,SqL.of hln3⟩,rfl,_,rfl,lm,rfl,⟨_,SqL.of Qc⟩,fun l2 hl2=>?_⟩
  have hml:∀ b ∈ bw.set sp ((bw[sp]+j) % 26),b < 26:=fun b hb=>by
   rcases List.mem_or_eq_of_mem_set hb with hb | hb
   ·exact hbw26 b hb
   ·rw [hb];exact Nat.mod_lt _ (18:)
  refine word _ l2 lm _ _ hl2 Qc (by rw [List.length_set];lia) hml fun H4 g4 h4=>?_
  refine ⟨S [],l2,_,by rw [← JZ],rfl,SqL.of h4,Ux (by rw [List.length_map,List.length_set];lia),?_⟩
  rw [Xq]
  refine ⟨ln,_,_,rfl,rfl,g4 _ _ hln3,by simp only [List.length_map,List.length_range,Qz];lia,_,_,rfl,fun z u e=>?_,?_⟩
  ·rw [Qj (Qk e hln)]
   refine g4 _ _ ?_
   have hz:z≠lm:=fun y=>by rw [y] at e;rw [g _ _ e] at hlm;cases hlm
   rw [Qj hz]
   exact km _ _ (g _ _ e)
  ·rw [Qc,List.range_succ,List.map_append,List.map_append];rfl
 ·rintro σ H' ⟨c6,c7,rfl,g,hy⟩
  refine ⟨_,rfl,q ln H' _ (g1.trans g) hy (27:) (Jv _ 8 fun i j hi hj e=>?_) fun x hx=>?_⟩
  ·have e2:=congrArg (fun l=>l[sp]?) (M0 e)
   simp only [List.getElem?_map,List.getElem?_set_self hspl,Option.map_some] at e2
   have e3:=GG (Nat.mod_lt _ (18:)) (Nat.mod_lt _ (18:)) (Option.some.inj e2)
   lia
  ·obtain ⟨k,_,rfl⟩:=List.mem_map.mp hx
   refine WW fun b hb=>?_
   rcases List.mem_or_eq_of_mem_set hb with hb | hb
   ·exact hbw26 b hb
   ·rw [hb];exact Nat.mod_lt _ (18:)
end
end K61
namespace L2
open PySem
def SameX (x:Addr) (H H':Hp):Prop:=∀ b u,b≠x→H b=some u→H' b=some u
theorem SameX.trans {x:Addr} {H H1 H2:Hp} (a:SameX x H H1) (b:SameX x H1 H2):SameX x H H2:=fun c u n e=>b c u n (a c u n e)
theorem SameX.of {x:Addr} {H H':Hp} (h:Same H H'):SameX x H H':=fun b u _ e=>h b u e
theorem SameX.upd {x:Addr} {H:Hp} {o:HO}:SameX x H (upd H x o):=fun b u n e=>by rw [Qj n];exact e
structure InsAt (H:Hp) (x:Addr):Prop where
 ex:∃ C dx fs,H x=some (.ins C dx fs)
theorem InsAt.seqT {K:PySem.W.Frag} {x:Addr} {H H':Hp} {a:Addr} {xs:List V} (i:InsAt H x) (g:SameX x H H') (h:SqT K H a xs):SqT K H' a xs:=by
 obtain ⟨C,dx,fs,hx⟩:=i.ex
 rcases h with (h | ⟨o,h⟩) | h
 ·exact .inl (.inl (g _ _ (ne_of h hx (12:)) h))
 ·exact .inl (.inr ⟨o,g _ _ (ne_of h hx (12:)) h⟩)
 ·exact .inr h
theorem InsAt.seq {K:PySem.W.Frag} {x:Addr} {H H':Hp} {a:Addr} {xs:List V} (i:InsAt H x) (g:SameX x H H') (h:SqL K H a xs):SqL K H' a xs:=by
 obtain ⟨C,dx,fs,hx⟩:=i.ex
 rcases h with (h | ⟨o,h⟩) | h
 ·exact .inl (.inl (g _ _ (ne_of h hx (12:)) h))
 ·exact .inl (.inr ⟨o,g _ _ (ne_of h hx (12:)) h⟩)
 ·exact .inr h
theorem InsAt.dK {x:Addr} {H H':Hp} {a:Addr} {xs:List (Key × V)} (i:InsAt H x) (g:SameX x H H') (h:H a=some (.dK xs)):H' a=some (.dK xs):=by
 obtain ⟨C,dx,fs,hx⟩:=i.ex
 exact g _ _ (ne_of h hx (12:)) h
theorem Zc {f g:Str} {v y:V} {r:List (Str × V)} (h:¬ g=f):Zl f v ((g,y) :: r)=(g,y) :: Zl f v r:=by
 show (if g=f then _ else _)=_
 rw [if_neg h]
theorem MK {f:Str} {v y:V} {r:List (Str × V)}:Zl f v ((f,y) :: r)=(f,v) :: r:=by
 show (if f=f then _ else _)=_
 rw [if_pos rfl]
end L2
namespace K61
open PySem L2 TM TT K9 K11
def Uu (K:PySem.W.Frag):Sp:=fun vs H Q _=>∃ (w:Addr) (ks:List KdT) (k0:KdT),vs=[.ref w]∧WoodAt K H w ks∧ks[0]?=some k0∧∀ (p b:Addr) (H':Hp),Same H H'→SqT K H' p [.str (S []),.ref b]→SqT K H' b [.str k0.2.1]→Q (.ref p) H'
def OM (K:PySem.W.Frag) (H:Hp) (sp:Addr) (L:Int):Prop:=∃ (n:Int) (vd:V) (row kk:Addr) (nm:Str) (xs:List V),SqT K H sp [.int n,vd,.ref row]∧SqT K H row [.str nm,.ref kk]∧SqT K H kk xs∧L=n + (if 0 < xs.length then 1 else 0)
def Xi (K:PySem.W.Frag):Sp:=fun vs H Q _=>∃ (fa sp:Addr) (y:V) (L:Int),vs=[.ref fa]∧SqT K H fa [.ref sp,y]∧OM K H sp L∧Q (.int L) H
abbrev XX:Stmt:=inClass (top 21) 0
abbrev YF:Stmt:=inClass (top 21) 1
abbrev Jy:Stmt:=inClass (top 21) 2
abbrev sMD:Stmt:=inClass (top 21) 3
abbrev sMF:Stmt:=inClass (top 21) 4
abbrev sTP:Stmt:=inClass (top 21) 5
def YY (tu kb st wt:Addr) (fv:V):List (Str × V):=[("turning", .ref tu),("kinds_below", .ref kb),("steps", .ref st),("waiting", .ref wt),("fault", fv)]
theorem X2 (tu kb st wt:Addr) (fv v:V):Zl "fault" v (YY tu kb st wt fv)=YY tu kb st wt v:=by
 unfold YY
 rw [Zc (0:),Zc (0:),Zc (0:),Zc (0:),MK]
def KbAt (K:PySem.W.Frag) (H:Hp) (kb:Addr) (ks:List KdT):Prop:=∃ l:List (KdT × Addr),l.map (·.1)=ks∧H kb=some (.dK (l.map fun q=>((Sum.inr q.1.2.1:Key),V.ref q.2))) ∧
 ∀ q ∈ l,H q.2=some (.dK (q.1.2.2.2.map fun r=>((Sum.inr r.2.1:Key),V.ref r.2.2.1)))∧∀ r ∈ q.1.2.2.2,SqT K H r.2.2.1 (r.2.2.2.map V.str)
theorem KbAt.insX {K:PySem.W.Frag} {H H':Hp} {x kb:Addr} {ks:List KdT} (i:InsAt H x) (g:SameX x H H') (h:KbAt K H kb ks):KbAt K H' kb ks:=by
 obtain ⟨l,e,h1,h2⟩:=h
 exact ⟨l,e,i.dK g h1,fun q hq=>⟨i.dK g (h2 q hq).1,fun r hr=>i.seqT g ((h2 q hq).2 r hr)⟩⟩
theorem KbAt.same {K:PySem.W.Frag} {H H':Hp} {kb:Addr} {ks:List KdT} (g:Same H H') (h:KbAt K H kb ks):KbAt K H' kb ks:=by
 obtain ⟨l,e,h1,h2⟩:=h
 exact ⟨l,e,g _ _ h1,fun q hq=>⟨g _ _ (h2 q hq).1,fun r hr=>g.seqT ((h2 q hq).2 r hr)⟩⟩
theorem KbAt.get {K:PySem.W.Frag} {H:Hp} {kb:Addr} {ks:List KdT} (h:KbAt K H kb ks) {kind:Str} (hk:∃ k ∈ ks,k.2.1=kind) (name:Str):∃ (d:Addr) (o:Option V),DGet H kb (.str kind) (some (.ref d))∧IsD H d∧DGet H d (.str name) o∧Oj K H (o.getD .non) (rowK ks kind name):=by
 obtain ⟨l,e,h1,h2⟩:=h
 have ef:ks.find? (fun k=>decide (k.2.1=kind))=(l.find? fun q=>decide (q.1.2.1=kind)).map (·.1):=by rw [← e,List.find?_map];rfl
 cases eq:l.find? fun q=>decide (q.1.2.1=kind) with
 | none =>
  rw [eq] at ef
  obtain ⟨k,hk,ek⟩:=hk
  have:=List.find?_eq_none.mp ef k hk
  simp [ek] at this
 | some q =>
  rw [eq] at ef
  obtain ⟨g1,g2⟩:=h2 q (List.mem_of_find?_eq_some eq)
  have v1:=DGet.k (k:=Sum.inr kind) h1
  rw [YL (fun q:KdT × Addr=>q.1.2.1) (fun q=>V.ref q.2) kind l,eq] at v1
  have v2:=DGet.k (k:=Sum.inr name) g1
  rw [YL (fun r:PNx=>r.2.1) (fun r=>V.ref r.2.2.1) name q.1.2.2.2] at v2
  refine ⟨q.2,_,v1,.inl ⟨_,.inl g1⟩,v2,?_⟩
  have er:rowsK ks kind=q.1.2.2.2:=by unfold rowsK;rw [ef];rfl
  unfold rowK
  rw [er]
  cases eq2:q.1.2.2.2.find? fun r=>decide (r.2.1=name) with
  | none=>exact rfl
  | some r=>exact ⟨_,rfl,g2 r (List.mem_of_find?_eq_some eq2)⟩
structure DmT (K:PySem.W.Frag) (mg:Str→Option Value) (C:Addr):Prop where
 cl:Cls K C
 nT:NoAttr K C "turning"
 nK:NoAttr K C "kinds_below"
 nS:NoAttr K C "steps"
 nW:NoAttr K C "waiting"
 nF:NoAttr K C "fault"
 mgC:mg "Demands" = some (.ref C)
section
variable {P:Program} {w:World} {K:PySem.W.Frag} {mg:Str→Option Value} {base:Heap} {f:Addr} {fd:FuncData}
theorem LY:FnScope ["wood"] ["wood"] (defScope Wb):=(1:)
theorem Lp (F:Fun K "row_above" "row_above" Wb f fd):FnOk P w K mg base CX0 1 f fd ["wood"] (Uu K):=by
 refine F.ok LY (8:) (4:)
 ·obtain ⟨w,ks,k0,rfl,_⟩:=h
  rfl
 obtain ⟨wd,ks,k0,rfl,hW,hk0,q⟩:=h
 refine ⟨_,(Qh (Qo (Qv (Qa (Zx) (Qa ((Qv (Qa (Qi Qg (Qi Qx (pv 0) Qb (3:)) Qb (3:)) Qd))) Qd))))),?_⟩
 have hat:atI (52:) 0=some (.ref k0.1):=Qy (j:=0) (by rw [List.getElem?_map,hk0];rfl)
 refine ⟨_,rfl,wd,_,0,_,rfl,rfl,hW.1,hat,k0.1,_,0,_,rfl,rfl,(hW.2 k0 (List.mem_of_getElem? hk0)).1,rfl,(35:),fun b hb=>⟨(23:),fun p hp=>?_⟩⟩
 have k1:=Qf hb (.tup [.str k0.2.1])
 have k2:=Qf hp (.tup [.str (Str.ofString ""),.ref b])
 refine q p b _ (k1.trans k2) ?_ (k2.seqT (SqT.of Qc))
 rw [← JZ]
 exact SqT.of Qc
theorem MS:FnScope ["fault", "spot"] ["fault"] (defScope NZ):=(1:)
theorem Nu (F:Fun K "levels_needed" "levels_needed" NZ f fd) (G:Gm mg):FnOk P w K mg base CX0 1 f fd ["fault"] (Xi K):=by
 refine F.ok MS (8:) (4:)
 ·obtain ⟨fa,sp,y,L,rfl,_⟩:=h
  rfl
 obtain ⟨fa,sp,y,L,rfl,hfa,⟨n,vd,row,kk,nm,xs,h1,h2,h3,rfl⟩,q⟩:=h
 refine ⟨_,(Qe (Ql (i:=1) MS.nd rfl (7:) (45:))
  (Qh (Qo (Qm QK (25:) (Gx (Qp Ji (Qr Qn rfl G.len PySem.boot_len (Qa (Qi Qg (25:) Qb (3:)) Qd)) Qb (Qt _)) Qb Qb))))),?_⟩
 refine ⟨_,rfl,fa,_,0,_,rfl,rfl,hfa,rfl,?_⟩
 refine ⟨_,rfl,sp,_,0,_,rfl,rfl,h1,rfl,_,rfl,sp,_,2,_,rfl,rfl,h1,rfl,row,_,1,_,rfl,rfl,h2,rfl,kk,xs,rfl,.inr h3,_,_,rfl,rfl,_,rfl,?_⟩
 by_cases hx:0 < xs.length
 ·rw [if_pos hx] at q
  refine Yr (show (((xs.length:Nat):Int) > 0) by lia) ⟨_,_,rfl,rfl,q⟩
 ·rw [if_neg hx] at q
  refine ZP (show ¬ (((xs.length:Nat):Int) > 0) by lia) ⟨_,_,rfl,rfl,q⟩
end
end K61
namespace K61
open PySem L2 TM TT K9 K11
abbrev RK:=Str→Str→Option (List Str)
abbrev Dd:=Int × Str
abbrev Rw:=Str × List Str
structure Spot where
 n:Nat
 dm:Option Dd
 row:Rw
structure Stp where
 sp:Spot
 pl:List Int
 br:Int
structure Stt where
 ss:List (Dd × Stp)
 ft:Option (Spot × List Int)
def Spot.lv (s:Spot):Nat:=s.n + (if 0 < s.row.2.length then 1 else 0)
def Stt.ds (s:Stt):List Dd:=s.ss.map (·.1)
def UT (d:Dd) (p:Stp) (s:Stt):Stt:=if d ∈ s.ds then s else ⟨s.ss ++ [(d,p)],s.ft⟩
def Z6 (sp:Spot) (pl:List Int) (s:Stt):Stt:=match s.ft with
 | none=>⟨s.ss,some (sp,pl)⟩
 | some f=>if sp.lv < f.1.lv then ⟨s.ss,some (sp,pl)⟩ else s
abbrev It:=List Int × Option (Int × Int × Str)
def its (f:RK):Nat→Tm→Str→List Int→List It
 | 0,_,_,_=>[]
 | n + 1,t,k,p=>match lab t with
  | .call m b=>[(p,some (m,b,k))]
  | .put nm _ _=>match f k nm with
   | some ss=>if ss.length=t.bs.length then (t.bs.zip ss).zipIdx.flatMap fun q=>its f n q.1.1 q.1.2 (p ++ [(q.2:Int)]) else [(p,none)]
   | none=>[(p,none)]
def act (sp:Spot) (s:Stt) (i:It):Stt:=match i.2 with
 | some c=>UT (c.1,c.2.2) ⟨sp,i.1,c.2.1⟩ s
 | none=>Z6 sp i.1 s
def XA (sp:Spot) (s:Stt) (l:List It):Stt:=l.foldl (act sp) s
theorem GR (sp:Spot) (s:Stt) (l r:List It):XA sp s (l ++ r)=XA sp (XA sp s l) r:=List.foldl_append ..
def TmB (nm:Nat):Nat→Tm→Prop
 | 0,_=>False
 | d + 1,t=>(∀ m b,lab t=.call m b→0≤m∧m < (nm:Int))∧t.bs.length≤100∧∀ b ∈ t.bs,TmB nm d b
structure WG (ks:List KdT):Prop where
 ok:WoodOk ks
 cl:∀ k ∈ ks,∀ r ∈ k.2.2.2,∀ s ∈ r.2.2.2,∃ k' ∈ ks,k'.2.1=s
theorem Yc {ks:List KdT} (hW:WG ks) {kind name s:Str} {ss:List Str} (e:rowK ks kind name=some ss) (hs:s ∈ ss):∃ k ∈ ks,k.2.1=s:=by
 unfold rowK at e
 cases er:(rowsK ks kind).find? fun r=>decide (r.2.1=name) with
 | none=>rw [er] at e;cases e
 | some r =>
  rw [er] at e
  have h1:r.2.2.2=ss:=by simpa using e
  have hm:=List.mem_of_find?_eq_some er
  unfold rowsK at hm
  cases ek:ks.find? fun k=>decide (k.2.1=kind) with
  | none=>rw [ek] at hm;cases hm
  | some k =>
   rw [ek] at hm
   exact hW.cl k (List.mem_of_find?_eq_some ek) r hm s (by rw [h1];exact hs)
def DOk (nm:Nat) (ks:List KdT) (d:Dd):Prop:=0≤d.1∧d.1 < (nm:Int)∧∃ k ∈ ks,k.2.1=d.2
theorem Wi {α:Type} [DecidableEq α]:∀ {l r:List α},l.Nodup→(∀ x ∈ l,x ∈ r)→l.length≤r.length
 | [],_,_,_=>Nat.zero_le _
 | x :: l,r,hn,hs=>by
  rw [List.nodup_cons] at hn
  have h1:=hs x List.mem_cons_self
  have h2:l.length≤(r.erase x).length:=Wi hn.2 fun y hy=>by
   have hy':=hs y (List.mem_cons_of_mem _ hy)
   have ne:y≠x:=fun e=>hn.1 (by rw [← e];exact hy)
   exact (List.mem_erase_of_ne ne).mpr hy'
  rw [List.length_erase_of_mem h1] at h2
  have:=List.length_pos_of_mem h1
  simp only [List.length_cons];lia
theorem ZL {nm:Nat} {ks:List KdT} {ds:List Dd} (hn:ds.Nodup) (h:∀ d ∈ ds,DOk nm ks d):ds.length≤nm * ks.length:=by
 have:=Wi (l:=ds) (r:=(List.range nm).flatMap fun i=>ks.map fun k=>(((i:Nat):Int),k.2.1)) hn fun d hd=>by
  obtain ⟨h1,h2,k,hk,e⟩:=h d hd
  refine List.mem_flatMap.mpr ⟨d.1.toNat,List.mem_range.mpr (11:),List.mem_map.mpr ⟨k,hk,?_⟩⟩
  rw [e,Int.toNat_of_nonneg h1]
 have e:∀ n:Nat,((List.range n).flatMap fun i=>ks.map fun k=>(((i:Nat):Int),k.2.1)).length=n * ks.length:=fun n=>by
  induction n with
  | zero=>simp
  | succ n ih=>rw [List.range_succ,List.flatMap_append,List.length_append,ih,Nat.succ_mul];simp
 rw [e] at this
 exact this
def SameD (x st wt:Addr) (H H':Hp):Prop:=∀ b u,b≠x→b≠st→b≠wt→H b=some u→H' b=some u
theorem SameD.refl (x st wt:Addr) (H:Hp):SameD x st wt H H:=fun _ _ _ _ _ e=>e
theorem SameD.trans {x st wt:Addr} {H H1 H2:Hp} (a:SameD x st wt H H1) (b:SameD x st wt H1 H2):SameD x st wt H H2:=fun c u n1 n2 n3 e=>b c u n1 n2 n3 (a c u n1 n2 n3 e)
theorem SameD.of {x st wt:Addr} {H H':Hp} (h:Same H H'):SameD x st wt H H':=fun b u _ _ _ e=>h b u e
def Kp (K:PySem.W.Frag) (H H':Hp):Prop:=(∀ a xs,H a=some (.tup xs)→H' a=some (.tup xs))∧∀ a xs,SqT K H a xs→SqT K H' a xs
theorem Kp.of {K:PySem.W.Frag} {H H':Hp} (g:Same H H'):Kp K H H':=⟨fun _ _ e=>g _ _ e,fun _ _=>g.seqT⟩
def RwAt (K:PySem.W.Frag) (H:Hp) (a:Addr) (r:Rw):Prop:=∃ kk,SqT K H a [.str r.1,.ref kk]∧SqT K H kk (r.2.map V.str)
def DdV (H:Hp) (v:V):Option Dd→Prop
 | none=>v=.non
 | some d=>∃ a,v=.ref a∧H a=some (.tup [.int d.1,.str d.2])
def SpAt (K:PySem.W.Frag) (H:Hp) (a:Addr) (s:Spot):Prop:=∃ vd ra,SqT K H a [.int (s.n:Int),vd,.ref ra]∧DdV H vd s.dm∧RwAt K H ra s.row
def StAt (K:PySem.W.Frag) (H:Hp) (v:V) (p:Stp):Prop:=∃ a sp pl,v=.ref a∧SqT K H a [.ref sp,.ref pl,.int p.br]∧SpAt K H sp p.sp∧SqT K H pl (p.pl.map V.int)
def FtAt (K:PySem.W.Frag) (H:Hp) (v:V):Option (Spot × List Int)→Prop
 | none=>v=.non
 | some f=>∃ a sp pl,v=.ref a∧SqT K H a [.ref sp,.ref pl]∧SpAt K H sp f.1∧SqT K H pl (f.2.map V.int)
theorem DdV.kp {K:PySem.W.Frag} {H H':Hp} {v:V} (k:Kp K H H'):∀ {o:Option Dd},DdV H v o→DdV H' v o
 | none,h=>h
 | some d,⟨a,e,h⟩=>⟨a,e,k.1 _ _ h⟩
theorem RwAt.kp {K:PySem.W.Frag} {H H':Hp} {a:Addr} {r:Rw} (k:Kp K H H'):RwAt K H a r→RwAt K H' a r
 | ⟨kk,h1,h2⟩=>⟨kk,k.2 _ _ h1,k.2 _ _ h2⟩
theorem SpAt.kp {K:PySem.W.Frag} {H H':Hp} {a:Addr} {s:Spot} (k:Kp K H H'):SpAt K H a s→SpAt K H' a s
 | ⟨vd,ra,h1,h2,h3⟩=>⟨vd,ra,k.2 _ _ h1,h2.kp k,h3.kp k⟩
theorem StAt.kp {K:PySem.W.Frag} {H H':Hp} {v:V} {p:Stp} (k:Kp K H H'):StAt K H v p→StAt K H' v p
 | ⟨a,sp,pl,e,h1,h2,h3⟩=>⟨a,sp,pl,e,k.2 _ _ h1,h2.kp k,k.2 _ _ h3⟩
theorem FtAt.kp {K:PySem.W.Frag} {H H':Hp} {v:V} (k:Kp K H H'):∀ {o:Option (Spot × List Int)},FtAt K H v o→FtAt K H' v o
 | none,h=>h
 | some f,⟨a,sp,pl,e,h1,h2,h3⟩=>⟨a,sp,pl,e,k.2 _ _ h1,h2.kp k,k.2 _ _ h3⟩
theorem SpAt.lvAt {K:PySem.W.Frag} {H:Hp} {a:Addr} {s:Spot}:SpAt K H a s→OM K H a (s.lv:Int)
 | ⟨vd,ra,h1,h2,kk,h3,h4⟩=>⟨_,vd,ra,kk,_,_,h1,h3,h4,by
  unfold Spot.lv
  rw [List.length_map]
  split <;> simp⟩
abbrev KvK (kvs:List ((Dd × Stp) × V)):List (List Key × V):=kvs.map fun q=>([Sum.inl q.1.1.1,Sum.inr q.1.1.2],q.2)
structure DmS (K:PySem.W.Frag) (C:Addr) (nm:Nat) (ks:List KdT) (H:Hp) (x dx tu kb st wt:Addr) (fv:V) (s:Stt):Prop where
 hx:H x=some (.ins C dx (YY tu kb st wt fv))
 hst:∃ kvs:List ((Dd × Stp) × V),kvs.map (·.1)=s.ss∧H st=some (.dT (KvK kvs))∧∀ q ∈ kvs,StAt K H q.2 q.1.2
 hwt:∃ ws:List (Addr × Dd),ws.map (·.2)=s.ds∧H wt=some (.lst (ws.map fun q=>V.ref q.1))∧∀ q ∈ ws,H q.1=some (.tup [.int q.2.1,.str q.2.2])
 nd:s.ds.Nodup
 dk:∀ d ∈ s.ds,DOk nm ks d
 fo:FtAt K H fv s.ft
section
variable {K:PySem.W.Frag} {C:Addr} {nm:Nat} {ks:List KdT} {H H':Hp} {x dx tu kb st wt:Addr} {fv:V} {s:Stt}
theorem DmS.tup (D:DmS K C nm ks H x dx tu kb st wt fv s) (g:SameD x st wt H H') {a:Addr} {xs:List V} (h:H a=some (.tup xs)):H' a=some (.tup xs):=by
 obtain ⟨kvs,_,h1,_⟩:=D.hst
 obtain ⟨ws,_,h2,_⟩:=D.hwt
 exact g _ _ (ne_of h D.hx (12:)) (ne_of h h1 (by intro z;cases z)) (ne_of h h2 (by intro z;cases z)) h
theorem DmS.dKs (D:DmS K C nm ks H x dx tu kb st wt fv s) (g:SameD x st wt H H') {a:Addr} {xs:List (Key × V)} (h:H a=some (.dK xs)):H' a=some (.dK xs):=by
 obtain ⟨kvs,_,h1,_⟩:=D.hst
 obtain ⟨ws,_,h2,_⟩:=D.hwt
 exact g _ _ (ne_of h D.hx (12:)) (ne_of h h1 (by intro z;cases z)) (ne_of h h2 (by intro z;cases z)) h
theorem DmS.seqT (D:DmS K C nm ks H x dx tu kb st wt fv s) (g:SameD x st wt H H') {a:Addr} {xs:List V} (h:SqT K H a xs):SqT K H' a xs:=by
 obtain ⟨kvs,_,h1,_⟩:=D.hst
 obtain ⟨ws,_,h2,_⟩:=D.hwt
 rcases h with (h | ⟨o,h⟩) | h
 ·exact .inl (.inl (D.tup g h))
 ·exact .inl (.inr ⟨o,g _ _ (ne_of h D.hx (12:)) (ne_of h h1 (by intro z;cases z)) (ne_of h h2 (by intro z;cases z)) h⟩)
 ·exact .inr h
theorem DmS.kbAt (D:DmS K C nm ks H x dx tu kb st wt fv s) (g:SameD x st wt H H') {kb':Addr} {ks':List KdT} (h:KbAt K H kb' ks'):KbAt K H' kb' ks':=by
 obtain ⟨l,e,h1,h2⟩:=h
 exact ⟨l,e,D.dKs g h1,fun q hq=>⟨D.dKs g (h2 q hq).1,fun r hr=>D.seqT g ((h2 q hq).2 r hr)⟩⟩
theorem DmS.kp (D:DmS K C nm ks H x dx tu kb st wt fv s) (g:SameD x st wt H H'):Kp K H H':=⟨fun _ _=>D.tup g,fun _ _=>D.seqT g⟩
theorem DmS.same (D:DmS K C nm ks H x dx tu kb st wt fv s) (g:Same H H'):DmS K C nm ks H' x dx tu kb st wt fv s:=by
 obtain ⟨kvs,a1,a2,a3⟩:=D.hst
 obtain ⟨ws,b1,b2,b3⟩:=D.hwt
 exact ⟨g _ _ D.hx,⟨kvs,a1,g _ _ a2,fun q hq=>(a3 q hq).kp (.of g)⟩,⟨ws,b1,g _ _ b2,fun q hq=>g _ _ (b3 q hq)⟩,D.nd,D.dk,D.fo.kp (.of g)⟩
theorem DmS.fault (D:DmS K C nm ks H x dx tu kb st wt fv s) {fv':V} {o:Option (Spot × List Int)} (h:FtAt K H fv' o):DmS K C nm ks (upd H x (.ins C dx (YY tu kb st wt fv'))) x dx tu kb st wt fv' ⟨s.ss,o⟩∧SameD x st wt H (upd H x (.ins C dx (YY tu kb st wt fv'))):=by
 have g:SameD x st wt H (upd H x (.ins C dx (YY tu kb st wt fv'))):=fun b u n _ _ e=>by rw [Qj n];exact e
 obtain ⟨kvs,a1,a2,a3⟩:=id D.hst
 obtain ⟨ws,b1,b2,b3⟩:=id D.hwt
 refine ⟨⟨Qc,⟨kvs,a1,?_,fun q hq=>(a3 q hq).kp (D.kp g)⟩,⟨ws,b1,?_,fun q hq=>D.tup g (b3 q hq)⟩,D.nd,D.dk,h.kp (D.kp g)⟩,g⟩
 ·rw [Qj (ne_of a2 D.hx (12:))];exact a2
 ·rw [Qj (ne_of b2 D.hx (12:))];exact b2
end
theorem Vg {d e:Dd} (h:([Sum.inl d.1,Sum.inr d.2]:List Key)=[Sum.inl e.1,Sum.inr e.2]):d=e:=by
 injection h with h1 h2
 injection h2 with h2
 injection h1 with h1
 injection h2 with h2
 exact Prod.ext h1 h2
theorem JO (d:Dd):∀ kvs:List ((Dd × Stp) × V),ZJ (KvK kvs) [Sum.inl d.1,Sum.inr d.2]=(kvs.find? fun q=>decide (q.1.1=d)).map (·.2)
 | []=>rfl
 | q :: r=>by
  rw [KvK,List.map_cons,List.find?_cons]
  by_cases e:q.1.1=d
  ·rw [ZF (p:=(([Sum.inl q.1.1.1,Sum.inr q.1.1.2]:List Key),q.2)) (by rw [e]),decide_eq_true e];rfl
  ·rw [ZE (p:=(([Sum.inl q.1.1.1,Sum.inr q.1.1.2]:List Key),q.2)) (fun z=>e (Vg z)),decide_eq_false e]
   exact JO d r
def L3 (K:PySem.W.Frag) (C:Addr):Sp:=fun vs H Q _=>∃ (nm:Nat) (ks:List KdT) (x dx tu kb st wt sp fa pl:Addr) (fv:V) (s:Stt) (S:Spot) (p:List Int),vs=[.ref x,.ref fa]∧DmS K C nm ks H x dx tu kb st wt fv s∧SqT K H fa [.ref sp,.ref pl]∧SpAt K H sp S∧SqT K H pl (p.map V.int) ∧
 ∀ (H':Hp) (fv':V),SameD x st wt H H'→DmS K C nm ks H' x dx tu kb st wt fv' (Z6 S p s)→Q .non H'
def NC (K:PySem.W.Frag) (C:Addr):Sp:=fun vs H Q _=>∃ (nm:Nat) (ks:List KdT) (x dx tu kb st wt dp:Addr) (sv fv:V) (s:Stt) (d:Dd) (p:Stp),vs=[.ref x,.ref dp,sv]∧DmS K C nm ks H x dx tu kb st wt fv s∧H dp=some (.tup [.int d.1,.str d.2])∧StAt K H sv p∧DOk nm ks d∧nm * ks.length≤1000 ∧
 ∀ (H':Hp),SameD x st wt H H'→DmS K C nm ks H' x dx tu kb st wt fv (UT d p s)→Q .non H'
section
variable {P:Program} {w:World} {K:PySem.W.Frag} {mg:Str→Option Value} {base:Heap} {f:Addr} {fd:FuncData} {C:Addr}
theorem O6:FnScope ["self", "fault"] ["self", "fault"] (defScope sMF):=(1:)
theorem OG (F:Fun K "meet_fault" "Demands.meet_fault" sMF f fd) (T:DmT K mg C) (RL:Fn P w K mg base 1 "levels_needed" ["fault"] (Xi K)):FnOk P w K mg base CX0 2 f fd ["self", "fault"] (L3 K C):=by
 refine F.ok O6 (8:) (4:)
 ·obtain ⟨nm,ks,x,dx,tu,kb,st,wt,sp,fa,pl,fv,s,S,p,rfl,_⟩:=h
  rfl
 obtain ⟨nm,ks,x,dx,tu,kb,st,wt,sp,fa,pl,fv,s,S,p,rfl,D,hfa,hS,hp,hQ⟩:=h
 refine ⟨_,(Qh (QF (PW.pt (pw_or (YW (UJ (QY (pv 0) rfl))) (pw_or1 (Qp Jn (Qs RL hr (Qa (pv 1) Qd)) (Qs RL hr (Qa (QY (pv 0) rfl) Qd)) (Qt _))))) (Qh (Y1 (pv 0) (pv 1) rfl)) Qu)),?_⟩
 have hx:=D.hx
 refine ⟨_,rfl,x,C,dx,_,_,rfl,hx,T.cl,T.nF,rfl,_,rfl,?_⟩
 have new:=D.fault (fv':=.ref fa) (o:=some (S,p)) ⟨fa,sp,pl,rfl,hfa,hS,hp⟩
 have fo:=D.fo
 unfold Z6 at hQ
 cases ef:s.ft with
 | none =>
  rw [ef] at fo hQ
  obtain rfl:fv=.non:=fo
  refine Yr rfl ⟨_,rfl,_,rfl,x,C,dx,_,rfl,hx,T.cl,T.nF,(by show 5 < 1000;decide),?_⟩
  rw [X2]
  exact hQ _ _ new.2 new.1
 | some o =>
  rw [ef] at fo hQ
  dsimp only at hQ
  obtain ⟨fa',sp',pl',rfl,h1,h2,h3⟩:=fo
  refine ZP (44:) ⟨_,rfl,fa,sp,_,_,rfl,hfa,hS.lvAt,_,rfl,x,C,dx,_,_,rfl,hx,T.cl,T.nF,rfl,fa',sp',_,_,rfl,h1,h2.lvAt,_,_,rfl,rfl,_,rfl,Yl (fun c=>?_) (fun c=>?_)⟩
  ·have c':(S.lv:Int) < (o.1.lv:Int):=of_decide_eq_true c
   rw [if_pos (11:)] at hQ
   refine ⟨_,rfl,_,rfl,x,C,dx,_,rfl,hx,T.cl,T.nF,(by show 5 < 1000;decide),?_⟩
   rw [X2]
   exact hQ _ _ new.2 new.1
  ·have c':¬ (S.lv:Int) < (o.1.lv:Int):=fun z=>c (decide_eq_true z)
   rw [if_neg (11:)] at hQ
   exact hQ H _ (SameD.refl _ _ _ _) D
theorem Ps:FnScope ["self", "demand", "step"] ["self", "demand", "step"] (defScope sMD):=(1:)
theorem Oy (F:Fun K "meet_demand" "Demands.meet_demand" sMD f fd) (T:DmT K mg C):FnOk P w K mg base CX0 2 f fd ["self", "demand", "step"] (NC K C):=by
 refine F.ok Ps (8:) (4:)
 ·obtain ⟨nm,ks,x,dx,tu,kb,st,wt,dp,sv,fv,s,d,p,rfl,_⟩:=h
  rfl
 obtain ⟨nm,ks,x,dx,tu,kb,st,wt,dp,sv,fv,s,d,p,rfl,D,hdp,hsv,hd,hnm,hQ⟩:=h
 refine ⟨_,(Qh (QF (YW (Jm (Ze hr) (pv 1) (QY (pv 0) rfl))) (Qe (WT (Ze hr) (QY (pv 0) rfl) (pv 1) (pv 2) rfl)
  (Qh (QJ (Zo PySem.F.plainAttrs_list PySem.F.slot_list_append PySem.F.type_list_append QR (QY (pv 0) rfl) (Qa (pv 1) Qd))))) Qu)),?_⟩
 have hx:=D.hx
 obtain ⟨kvs,a1,a2,a3⟩:=id D.hst
 obtain ⟨ws,b1,b2,b3⟩:=id D.hwt
 have hlen:=ZL D.nd D.dk
 have hds:s.ds=kvs.map fun q=>q.1.1:=by unfold Stt.ds;rw [← a1,List.map_map];rfl
 have hkl:kvs.length=s.ds.length:=by rw [hds,List.length_map]
 have hwl:ws.length=s.ds.length:=by rw [← b1,List.length_map]
 have hdp':H dp=some (.tup (([Sum.inl d.1,Sum.inr d.2]:List Key).map kV)):=hdp
 have ev:=JO d kvs
 refine ⟨_,rfl,_,rfl,x,C,dx,_,_,rfl,hx,T.cl,T.nS,rfl,st,_,rfl,DGet.t a2 hdp',?_⟩
 rw [ev]
 unfold UT at hQ
 cases ef:kvs.find? fun q=>decide (q.1.1=d) with
 | some q =>
  have hin:d ∈ s.ds:=by
   rw [hds]
   refine List.mem_map.mpr ⟨q,List.mem_of_find?_eq_some ef,?_⟩
   simpa using List.find?_some ef
  refine ⟨_,rfl,Q3 ?_⟩
  refine hQ H (SameD.refl _ _ _ _) ?_
  rw [if_pos hin]
  exact D
 | none =>
  have hni:d ∉ s.ds:=fun z=>by
   rw [hds] at z
   obtain ⟨q,hq,e⟩:=List.mem_map.mp z
   have:=List.find?_eq_none.mp ef q hq
   simp [e] at this
  rw [if_neg hni] at hQ
  have hvn:ZJ (KvK kvs) [Sum.inl d.1,Sum.inr d.2]=none:=by rw [ev,ef];rfl
  have hput:=DPut.t (v:=sv) a2 hdp' (by rw [KvK,List.length_map,Qz];lia)
  rw [Xw sv hvn] at hput
  have ekv:KvK kvs ++ [([Sum.inl d.1,Sum.inr d.2],sv)]=KvK (kvs ++ [((d,p),sv)]):=by rw [KvK,KvK,List.map_append];rfl
  rw [ekv] at hput
  have nxs:x≠st:=(ne_of hx a2 (12:))
  have nws:wt≠st:=(ne_of b2 a2 (12:))
  have nwx:wt≠x:=(ne_of b2 hx (12:))
  refine ⟨_,rfl,Q8 ⟨_,rfl,_,rfl,x,C,dx,_,_,rfl,hx,T.cl,T.nS,rfl,_,rfl,st,_,rfl,hput,?_⟩⟩
  generalize hH1:upd H st (.dT (KvK (kvs ++ [((d,p),sv)])))=H1
  have hx1:H1 x=some (.ins C dx (YY tu kb st wt fv)):=by rw [← hH1,Qj nxs];exact hx
  have hw1:H1 wt=some (.lst (ws.map fun q=>V.ref q.1)):=by rw [← hH1,Qj nws];exact b2
  have hs1:H1 st=some (.dT (KvK (kvs ++ [((d,p),sv)]))):=by rw [← hH1];exact Qc
  have g1:SameD x st wt H H1:=fun b u _ n _ e=>by rw [← hH1,Qj n];exact e
  refine ⟨_,rfl,x,C,dx,_,_,rfl,hx1,T.cl,T.nW,rfl,.inl ⟨rfl,_,SqL.of hw1⟩,_,rfl,wt,_,_,rfl,rfl,hw1,(by rw [List.length_map,Qz];lia),?_⟩
  have g2:SameD x st wt H (upd H1 wt (.lst (ws.map (fun q=>V.ref q.1) ++ [.ref dp]))):=fun b u n1 n2 n3 e=>by rw [Qj n3];exact g1 b u n1 n2 n3 e
  refine hQ _ g2 ?_
  have ead:(⟨s.ss ++ [(d,p)],s.ft⟩ : Stt).ds=s.ds ++ [d]:=by unfold Stt.ds;rw [List.map_append];rfl
  have nd:(s.ds ++ [d]).Nodup:=List.nodup_append.mpr ⟨D.nd,by simp,fun a ha b hb=>by
   have:b=d:=by simpa using hb
   subst this
   exact fun z=>hni (by rw [← z];exact ha)⟩
  refine ⟨by rw [Qj (Ne.symm nwx)];exact hx1,⟨kvs ++ [((d,p),sv)],by rw [List.map_append,a1];rfl,by rw [Qj (Ne.symm nws)];exact hs1,fun q hq=>?_⟩,⟨ws ++ [(dp,d)],by rw [List.map_append,b1,ead];rfl,by rw [Qc,List.map_append];rfl,fun q hq=>?_⟩,by rw [ead];exact nd,fun e he=>?_,D.fo.kp (D.kp g2)⟩
  ·rcases List.mem_append.mp hq with z | z
   ·exact (a3 q z).kp (D.kp g2)
   ·have:q=((d,p),sv):=by simpa using z
    rw [this]
    exact hsv.kp (D.kp g2)
  ·rcases List.mem_append.mp hq with z | z
   ·exact D.tup g2 (b3 q z)
   ·have:q=(dp,d):=by simpa using z
    rw [this]
    exact D.tup g2 hdp
  ·rw [ead] at he
   rcases List.mem_append.mp he with z | z
   ·exact D.dk e z
   ·have:e=d:=by simpa using z
    rw [this];exact hd
end
end K61
namespace K61
open PySem L2 TM TT K9 K11
def Yq (K:PySem.W.Frag) (C:Addr) (n:Nat):Sp:=fun vs H Q _=>∃ (nm:Nat) (ks:List KdT) (x dx tu kb st wt sp pl:Addr) (fv v:V) (kind:Str) (p:List Int) (t:Tm) (S:Spot) (s:Stt),vs=[.ref x,.ref sp,.ref pl,v,.str kind]∧DmS K C nm ks H x dx tu kb st wt fv s∧KbAt K H kb ks∧WG ks∧SpAt K H sp S∧SqT K H pl (p.map V.int)∧p.length + n≤100∧TmV K H v t∧TmB nm n t∧(∃ k ∈ ks,k.2.1=kind)∧nm * ks.length≤1000 ∧
 ∀ (H':Hp) (fv':V),SameD x st wt H H'→DmS K C nm ks H' x dx tu kb st wt fv' (XA S s (its (46:) n t kind p))→Q .non H'
section
variable {P:Program} {w:World} {K:PySem.W.Frag} {mg:Str→Option Value} {base:Heap} {f:Addr} {fd:FuncData} {C:Addr}
theorem Xa:FnScope ["self", "spot", "place", "term", "kind", "kinds", "number", "part"] ["self", "spot", "place", "term", "kind"] (defScope Jy):=(1:)
theorem MI {n:Nat} (F:Fun K "look" "Demands.look" Jy f fd) (G:Gm mg) (T:DmT K mg C) (RC:Fn P w K mg base 1 "is_call" ["term"] (XZ K)) {fM:Addr} {fdM:FuncData} (mM:Meth K C "meet_fault" fM) (FM:FnOk P w K mg base CX0 2 fM fdM ["self", "fault"] (L3 K C)) (bM:Binds K fdM ["self", "fault"] [])
 {fD:Addr} {fdD:FuncData} (mD:Meth K C "meet_demand" fD) (FD:FnOk P w K mg base CX0 2 fD fdD ["self", "demand", "step"] (NC K C)) (bD:Binds K fdD ["self", "demand", "step"] [])
 (mL:Meth K C "look" f) (FL:FnOk P w K mg base CX0 (n + 2) f fd ["self", "spot", "place", "term", "kind"] (Yq K C n)) (bL:Binds K fd ["self", "spot", "place", "term", "kind"] []):FnOk P w K mg base CX0 (n + 3) f fd ["self", "spot", "place", "term", "kind"] (Yq K C (n + 1)):=by
 refine F.ok Xa (8:) (4:)
 ·obtain ⟨nm,ks,x,dx,tu,kb,st,wt,sp,pl,fv,v,kind,p,t,S,s,rfl,_⟩:=h
  rfl
 obtain ⟨nm,ks,x,dx,tu,kb,st,wt,sp,pl,fv,v,kind,p,t,S,s,rfl,D,hkb,hWG,hS,hpl,hpn,hv,hB,hkind,hnk,hQ⟩:=h
 have hr2:Room 2 _:=hr.mono (11:)
 have hrn:Room (n + 2) _:=hr
 refine ⟨_,(Qe (QF (Q0 (Qs RC hr (Qa (pv 3) Qd) (11:))) (Qe (QJ (Yh (pv 0) T.cl mD FD hr2 bD .nil YC (Qa ((Qv (Qa (Qi Qg (pv 3) Qb (3:)) (Qa (pv 4) Qd)))) (Qa ((Qv (Qa (pv 1) (Qa (pv 2) (Qa (Qi Qg (pv 3) Qb (3:)) Qd))))) Qd))))
  (Qh (W1))) Qu)
  (Qe (Ql (i:=5) Xa.nd rfl (7:) (G6 (Ze hr) (Zg (Ze hr) (QY (pv 0) rfl) (pv 4) (3:)) (Qi Qg (pv 3) Qb (3:)) ⟨rfl,rfl,rfl,rfl⟩))
  (Qe (QF (PW.pt (pw_or (YW (UJ (pv 5))) (pw_or1 (Qp GV (Qr Qn rfl G.len PySem.boot_len (Qa (pv 5) Qd)) (Qr Qn rfl G.len PySem.boot_len (Qa (Qi Qg (pv 3) Qb (3:)) Qd)) (Qt _))))) (Qe (QJ (Yh (pv 0) T.cl mM FM hr2 bM .nil YC (Qa ((Qv (Qa (pv 1) (Qa (pv 2) Qd)))) Qd)))
  (Qh (W1))) Qu)
  (Qh (QL PassesOwn.never rfl (LS rfl G.enu (Qa (Qi Qg (pv 3) Qb (3:)) Qd)) (Zb rfl (Qw (Qq (i:=6) Xa.nd rfl (7:)) (Qw (Qq (i:=7) Xa.nd rfl (7:)) QX)))
   (Qh (QJ (Yh (pv 0) T.cl mL FL hrn bL .nil YC (Qa (pv 1) (Qa (Qm Yi (pv 2) (Qv (Qa (pv 6) Qd))) (Qa (pv 7) (Qa (Qi Qg (pv 5) (pv 6) (3:)) Qd)))))))))))),?_⟩
 have hx:=D.hx
 obtain ⟨hB1,hB2,hB3⟩:=hB
 rcases Yk hv with ⟨a,mo,b,rfl,rfl,h1⟩ | ⟨a,b,bs,nm',k',ad',rfl,et,h1,h2,h3,h4⟩
 ·refine ⟨_,rfl,a,XS,_,rfl,h1,_,rfl,Yr rfl ?_⟩
  refine ⟨_,rfl,x,dx,_,rfl,hx,rfl,_,rfl,a,_,1,_,rfl,rfl,h1,rfl,_,rfl,(23:),fun dp hdp=>?_⟩
  have g1:=Qf hdp (.tup [.int mo,.str kind])
  refine ⟨_,rfl,_,rfl,_,rfl,a,_,2,_,rfl,rfl,g1.seqT h1,rfl,(20:),fun sa hsa=>?_⟩
  have g2:=Qf hsa (.tup [.ref sp,.ref pl,.int b])
  have g12:=g1.trans g2
  refine ⟨nm,ks,x,dx,tu,kb,st,wt,dp,.ref sa,fv,s,(mo,kind),⟨S,p,b⟩,rfl,D.same g12,g2 _ _ Qc,⟨sa,sp,pl,rfl,SqT.of Qc,hS.kp (.of g12),g12.seqT hpl⟩,⟨(hB1 mo b rfl).1,(hB1 mo b rfl).2,hkind⟩,hnk,fun H' g D'=>?_⟩
  exact hQ H' fv ((SameD.of g12).trans g) D'
 have enl:lab t=.put nm' k' ad':=by rw [et];rfl
 refine ⟨_,rfl,a,PUT,_,rfl,h1,_,rfl,ZP (0:) ?_⟩
 have hlen:=h3.length
 obtain ⟨d,o,hd,hdD,hdo,hrow⟩:=hkb.get hkind nm'
 refine ⟨_,rfl,x,C,dx,_,_,rfl,hx,T.cl,T.nK,rfl,_,rfl,kb,.ref d,rfl,hd,d,rfl,hdD,_,rfl,a,_,1,_,rfl,rfl,h1,rfl,o,hdo,?_⟩
 have fault:its (46:) (n + 1) t kind p=[(p,none)]→∀ pp,H pp=none→L3 K C (.ref x :: ([.ref pp] ++ [])) (upd H pp (.tup [.ref sp,.ref pl])) (fun _ H'=>Q .non H') E0:=fun hd0 pp hpp=>by
  have g:=Qf hpp (.tup [.ref sp,.ref pl])
  refine ⟨nm,ks,x,dx,tu,kb,st,wt,sp,pp,pl,fv,s,S,p,rfl,D.same g,SqT.of Qc,hS.kp (.of g),g.seqT hpl,fun H' fv' gx D'=>?_⟩
  refine hQ H' fv' ((SameD.of g).trans gx) ?_
  rw [hd0]
  exact D'
 cases er:rowK ks kind nm' with
 | none =>
  rw [er] at hrow
  have hd0:its (46:) (n + 1) t kind p=[(p,none)]:=by rw [its,enl];dsimp only;rw [er]
  rw [show o.getD .non=.non from hrow]
  exact ⟨_,rfl,_,rfl,Yr rfl ⟨_,rfl,x,dx,_,rfl,hx,rfl,_,rfl,_,rfl,(23:),fun pp hpp=>fault hd0 pp hpp⟩⟩
 | some ss =>
  rw [er] at hrow
  obtain ⟨kk,ekk,hkk⟩:=hrow
  rw [ekk]
  refine ⟨_,rfl,_,rfl,ZP (44:) ⟨_,rfl,kk,_,rfl,.inr hkk,_,rfl,a,_,4,_,rfl,rfl,h1,rfl,b,_,rfl,.inr h2,rfl,_,rfl,?_⟩⟩
  by_cases hl:ss.length=t.bs.length
  ·refine Gu (by rw [List.length_map,hl,hlen]) ?_
   have edm:its (46:) (n + 1) t kind p=(t.bs.zip ss).zipIdx.flatMap fun q=>its (46:) n q.1.1 q.1.2 (p ++ [(q.2:Int)]):=by rw [its,enl];dsimp only;rw [er];dsimp only;rw [if_pos hl]
   rw [edm] at hQ
   refine ⟨_,rfl,a,_,4,_,rfl,rfl,h1,rfl,b,bs,rfl,h2,?_⟩
   refine Gv (K:=K) (xs:=bs) (fun i σ H'=>∃ (c6 c7:Option V) (fv':V),σ=[some (.ref x),some (.ref sp),some (.ref pl),some (.ref a),some (.str kind),some (.ref kk),c6,c7]∧SameD x st wt H H'∧DmS K C nm ks H' x dx tu kb st wt fv' (XA S s (((t.bs.zip ss).zipIdx.take i).flatMap fun q=>its (46:) n q.1.1 q.1.2 (p ++ [(q.2:Int)]))))
    ⟨none,none,fv,rfl,SameD.refl _ _ _ _,D⟩ ?_ ?_ ?_
   ·rintro i σ H' _ ⟨c6,c7,fv',_,g,_⟩
    exact D.seqT g h2
   ·rintro i u pp σ H' hu hpp ⟨c6,c7,fv',rfl,g,D'⟩
    have hib:i < bs.length:=(List.getElem?_eq_some_iff.mp hu).1
    have hit:i < t.bs.length:=by lia
    have his:i < ss.length:=by lia
    obtain ⟨cv,hcv,hct⟩:=h3.get (List.getElem?_eq_getElem hit)
    obtain rfl:cv=u:=Option.some.inj (hcv.symm.trans hu)
    have ez:(t.bs.zip ss).zipIdx[i]?=some ((t.bs[i],ss[i]),i):=by
     rw [List.getElem?_zipIdx,List.getElem?_eq_getElem (by rw [List.length_zip];lia),List.getElem_zip];simp
    have gp:=Qf hpp (.tup [.int (i:Int),cv])
    have g1:=g.trans (SameD.of gp)
    have hx1:=gp _ _ D'.hx
    refine ⟨pp,_,rfl,SqT.of Qc,rfl,_,_,rfl,_,_,rfl,rfl,?_⟩
    refine ⟨_,rfl,x,dx,_,rfl,hx1,rfl,_,rfl,_,rfl,_,rfl,(35:),fun p1 hp1=>?_⟩
    have g2':=Qf hp1 (.tup [.int (i:Int)])
    have g2:=g1.trans (SameD.of g2')
    refine ⟨pl,p1,p.map V.int,[.int (i:Int)],rfl,rfl,D.seqT g2 hpl,SqT.of Qc,(by rw [List.length_map,Qz];simp only [List.length_singleton];lia),fun p2 H3 g3' hp2=>?_⟩
    have ecat:p.map V.int ++ [V.int (i:Int)]=(p ++ [(i:Int)]).map V.int:=by rw [List.map_append];rfl
    rw [ecat] at hp2
    have g3:=g2.trans (SameD.of g3')
    have gpp:=gp.trans (g2'.trans g3')
    refine ⟨_,rfl,_,rfl,_,rfl,kk,_,_,.str ss[i],rfl,rfl,D.seqT g3 hkk,Qy (by rw [List.getElem?_map,List.getElem?_eq_getElem his];rfl),?_⟩
    refine ⟨nm,ks,x,dx,tu,kb,st,wt,sp,p2,fv',cv,ss[i],p ++ [(i:Int)],t.bs[i],S,_,rfl,D'.same gpp,D.kbAt g3 hkb,hWG,hS.kp (D.kp g3),hp2,by rw [List.length_append,List.length_singleton];lia,hct.mono fun _ _=>D.seqT g3,hB3 _ (List.getElem_mem hit),Yc hWG er (List.getElem_mem his),hnk,fun H4 fv4 g4 D4=>?_⟩
    refine ⟨_,_,fv4,rfl,g3.trans g4,?_⟩
    rw [List.take_add_one,ez,List.flatMap_append,GR]
    simpa using D4
   ·rintro σ H' ⟨c6,c7,fv',rfl,g,D'⟩
    have et2:(t.bs.zip ss).zipIdx.take bs.length=(t.bs.zip ss).zipIdx:=List.take_of_length_le (by rw [List.length_zipIdx,List.length_zip];lia)
    rw [et2] at D'
    exact hQ H' fv' g D'
  ·have hd0:its (46:) (n + 1) t kind p=[(p,none)]:=by rw [its,enl];dsimp only;rw [er];dsimp only;rw [if_neg hl]
   have e2:(!decide (V.int (((ss.map V.str).length:Nat):Int)=V.int ((bs.length:Nat):Int)))=true:=by
    rw [List.length_map,decide_eq_false]
    ·rfl
    ·intro z
     injection z with z
     lia
   rw [e2]
   exact Q8 ⟨_,rfl,x,dx,_,rfl,hx,rfl,_,rfl,_,rfl,(23:),fun pp hpp=>fault hd0 pp hpp⟩
theorem Vu {k:Nat}:FnOk P w K mg base CX0 k f fd ["self", "spot", "place", "term", "kind"] (Yq K C 0):=by
 have no:∀ vs H Q E,¬ Yq K C 0 vs H Q E:=fun vs H Q E h=>by
  obtain ⟨nm,ks,x,dx,tu,kb,st,wt,sp,pl,fv,v,kind,p,t,S,s,_,_,_,_,_,_,_,_,h0,_⟩:=h
  exact h0
 exact (29:)
theorem XR (F:Fun K "look" "Demands.look" Jy f fd) (G:Gm mg) (T:DmT K mg C) (RC:Fn P w K mg base 1 "is_call" ["term"] (XZ K)) {fM:Addr} {fdM:FuncData} (mM:Meth K C "meet_fault" fM) (FM:FnOk P w K mg base CX0 2 fM fdM ["self", "fault"] (L3 K C)) (bM:Binds K fdM ["self", "fault"] [])
 {fD:Addr} {fdD:FuncData} (mD:Meth K C "meet_demand" fD) (FD:FnOk P w K mg base CX0 2 fD fdD ["self", "demand", "step"] (NC K C)) (bD:Binds K fdD ["self", "demand", "step"] [])
 (mL:Meth K C "look" f) (bL:Binds K fd ["self", "spot", "place", "term", "kind"] []):∀ n:Nat,FnOk P w K mg base CX0 (n + 2) f fd ["self", "spot", "place", "term", "kind"] (Yq K C n)
 | 0=>Vu
 | n + 1=>MI F G T RC mM FM bM mD FD bD mL (XR F G T RC mM FM bM mD FD bD mL bL n) bL
end
end K61
namespace K61
open PySem L2 TM TT K9 K11
def fl1 (tu:Addr):List (Str × V):=[("turning", .ref tu)]
def fl2 (tu kb:Addr):List (Str × V):=[("turning", .ref tu),("kinds_below", .ref kb)]
def fl3 (tu kb st:Addr):List (Str × V):=[("turning", .ref tu),("kinds_below", .ref kb),("steps", .ref st)]
def fl4 (tu kb st wt:Addr):List (Str × V):=[("turning", .ref tu),("kinds_below", .ref kb),("steps", .ref st),("waiting", .ref wt)]
theorem f1 (tu:Addr):Zl "turning" (.ref tu) []=fl1 tu:=rfl
theorem f2 (tu kb:Addr):Zl "kinds_below" (.ref kb) (fl1 tu)=fl2 tu kb:=by
 unfold fl1
 rw [Zc (0:)];rfl
theorem f3 (tu kb st:Addr):Zl "steps" (.ref st) (fl2 tu kb)=fl3 tu kb st:=by
 unfold fl2
 rw [Zc (0:),Zc (0:)];rfl
theorem f4 (tu kb st wt:Addr):Zl "waiting" (.ref wt) (fl3 tu kb st)=fl4 tu kb st wt:=by
 unfold fl3
 rw [Zc (0:),Zc (0:),Zc (0:)];rfl
theorem f5 (tu kb st wt:Addr):Zl "fault" .non (fl4 tu kb st wt)=YY tu kb st wt .non:=by
 unfold fl4
 rw [Zc (0:),Zc (0:),Zc (0:),Zc (0:)];rfl
abbrev Gn (K:PySem.W.Frag):List V→Hp→VK→Prop:=fun xs H Q=>∃ (l:Addr) (ts:List (Addr × Str × V)),xs=[.ref l]∧SqL K H l (ts.map fun t=>V.ref t.1)∧(∀ t ∈ ts,SqT K H t.1 [.str t.2.1,t.2.2])∧(ts.map fun t=>t.2.1).Nodup∧ts.length≤1000 ∧
 ∀ d,H d=none→Q (.ref d) (upd H d (.dK (ts.map fun t=>(54:))))
theorem WoodAt.insX {K:PySem.W.Frag} {H H':Hp} {x wd:Addr} {ks:List KdT} (i:InsAt H x) (g:SameX x H H') (h:WoodAt K H wd ks):WoodAt K H' wd ks :=
 ⟨i.seq g h.1,fun k hk=>⟨i.seqT g (h.2 k hk).1,i.seq g (h.2 k hk).2.1,fun t ht=>⟨i.seqT g ((h.2 k hk).2.2 t ht).1,i.seqT g ((h.2 k hk).2.2 t ht).2⟩⟩⟩
abbrev MoT:=Addr × Str × Addr × List V × List Tm
def Of (K:PySem.W.Frag) (H:Hp) (m:MoT):Prop:=SqT K H m.1 [.str m.2.1,.ref m.2.2.1]∧SqL K H m.2.2.1 m.2.2.2.1∧TmAll K H m.2.2.2.1 m.2.2.2.2
structure TuAt (K:PySem.W.Frag) (H:Hp) (tu wd:Addr) (sv:V) (lm:Addr) (ks:List KdT) (t0:Tm) (ms:List MoT):Prop where
 tu:SqT K H tu [.ref wd,sv,.ref lm]
 wd:WoodAt K H wd ks
 st:TmV K H sv t0
 lm:SqL K H lm (ms.map fun m=>V.ref m.1)
 mo:∀ m ∈ ms,Of K H m
theorem TuAt.insX {K:PySem.W.Frag} {H H':Hp} {x tu wd lm:Addr} {sv:V} {ks:List KdT} {t0:Tm} {ms:List MoT} (i:InsAt H x) (g:SameX x H H') (h:TuAt K H tu wd sv lm ks t0 ms):TuAt K H' tu wd sv lm ks t0 ms :=
 ⟨i.seqT g h.tu,WoodAt.insX i g h.wd,h.st.mono fun _ _=>i.seqT g,i.seq g h.lm,fun m hm=>⟨i.seqT g (h.mo m hm).1,i.seq g (h.mo m hm).2.1,(h.mo m hm).2.2.mono fun _ _=>i.seqT g⟩⟩
theorem TuAt.same {K:PySem.W.Frag} {H H':Hp} {tu wd lm:Addr} {sv:V} {ks:List KdT} {t0:Tm} {ms:List MoT} (g:Same H H') (h:TuAt K H tu wd sv lm ks t0 ms):TuAt K H' tu wd sv lm ks t0 ms :=
 ⟨g.seqT h.tu,h.wd.same g,h.st.mono fun _ _=>g.seqT,g.seq h.lm,fun m hm=>⟨g.seqT (h.mo m hm).1,g.seq (h.mo m hm).2.1,(h.mo m hm).2.2.mono fun _ _=>g.seqT⟩⟩
structure TuOk (ks:List KdT) (nm n:Nat) (t0:Tm) (ms:List MoT):Prop where
 wo:WoodOk ks
 cn:ms.length=nm
 st:TmB nm n t0
 kd:∀ m ∈ ms,∃ k ∈ ks,k.2.1=m.2.1
 ru:∀ m ∈ ms,(rowsK ks m.2.1).length=m.2.2.2.2.length
 tb:∀ m ∈ ms,∀ t ∈ m.2.2.2.2,TmB nm n t
theorem QV {ks:List KdT} {kind:Str} (h:∃ k ∈ ks,k.2.1=kind):∃ k,ks.find? (fun k=>decide (k.2.1=kind))=some k∧rowsK ks kind=k.2.2.2∧k ∈ ks:=by
 cases e:ks.find? fun k=>decide (k.2.1=kind) with
 | none =>
  obtain ⟨k,hk,ek⟩:=h
  have:=List.find?_eq_none.mp e k hk
  simp [ek] at this
 | some k=>exact ⟨k,rfl,by unfold rowsK;rw [e];rfl,List.mem_of_find?_eq_some e⟩
def QB (ks:List KdT) (ms:List MoT) (d:Dd):List (Rw × Tm):=((ms[d.1.toNat]?).map fun m=>((rowsK ks m.2.1).zip m.2.2.2.2).map fun q=>((q.1.2.1,q.1.2.2.2),q.2)).getD []
def nOf (s:Stt) (d:Dd):Nat:=((s.ss.find? fun q=>decide (q.1=d)).map fun q=>q.2.sp.n).getD 0
def W6 (f:RK) (n N:Nat) (d:Dd) (l:List (Rw × Tm)) (s:Stt):Stt:=l.foldl (fun s r=>XA ⟨N,some d,r.1⟩ s (its f n r.2 d.2 [])) s
def Xs (f:RK) (n:Nat) (rl:Dd→List (Rw × Tm)) (d:Dd) (s:Stt):Stt:=W6 f n (nOf s d + 1) d (rl d) s
def Ug (f:RK) (n:Nat) (rl:Dd→List (Rw × Tm)):Nat→Nat→Stt→Stt
 | 0,_,s=>s
 | m + 1,j,s=>match s.ds[j]? with
  | some d=>Ug f n rl m (j + 1) (Xs f n rl d s)
  | none=>s
def Y4 (f:RK) (n:Nat) (t0:Tm) (k1 k0:Str):Stt:=XA ⟨0,none,(S [],[k1])⟩ ⟨[],none⟩ (its f n t0 k0 [])
def Ow (K:PySem.W.Frag) (C:Addr) (n:Nat):Sp:=fun vs H Q _=>∃ (nm:Nat) (ks ks1:List KdT) (x dx tu kb st wt dp wd lm:Addr) (sv fv:V) (t0:Tm) (ms:List MoT) (s:Stt) (d:Dd),vs=[.ref x,.ref dp]∧DmS K C nm ks H x dx tu kb st wt fv s∧KbAt K H kb ks∧WG ks∧H dp=some (.tup [.int d.1,.str d.2])∧d ∈ s.ds∧nm * ks.length≤1000∧n≤100∧TuOk ks1 nm n t0 ms∧(∀ H',SameD x st wt H H'→TuAt K H' tu wd sv lm ks1 t0 ms) ∧
 ∀ (H':Hp) (fv':V),SameD x st wt H H'→DmS K C nm ks H' x dx tu kb st wt fv' (Xs (46:) n (QB ks1 ms) d s)→Q .non H'
def Lk (K:PySem.W.Frag) (C:Addr) (n:Nat):Sp:=fun vs H Q _=>∃ (nm:Nat) (x dx tu wd lm wo:Addr) (sv:V) (ks1 ks:List KdT) (k01 k00:KdT) (t0:Tm) (ms:List MoT),vs=[.ref x,.ref tu,.ref wo]∧H x=some (.ins C dx [])∧TuAt K H tu wd sv lm ks1 t0 ms∧TuOk ks1 nm n t0 ms∧ks1[0]?=some k01∧WoodAt K H wo ks∧WG ks∧ks[0]?=some k00∧nm * ks.length≤1000∧n≤100 ∧
 ∀ (H':Hp) (kb st wt:Addr) (fv:V),SameX x H H'→DmS K C nm ks H' x dx tu kb st wt fv (Ug (46:) n (QB ks1 ms) (nm * ks.length + 1) 0 (Y4 (46:) n t0 k01.2.1 k00.2.1))→Q .non H'
section
variable {P:Program} {w:World} {K:PySem.W.Frag} {mg:Str→Option Value} {base:Heap} {f:Addr} {fd:FuncData} {C:Addr}
theorem Lh:FnScope ["self", "demand", "names", "mode", "row", "rule"] ["self", "demand"] (defScope YF):=(1:)
theorem Og {n:Nat} (F:Fun K "look_by" "Demands.look_by" YF f fd) (G:Gm mg) (T:DmT K mg C) (RO:Fn P w K mg base 1 "rows_of" ["wood", "kind"] (Z8 K)) {fL:Addr} {fdL:FuncData} (mL:Meth K C "look" fL) (FL:FnOk P w K mg base CX0 (n + 2) fL fdL ["self", "spot", "place", "term", "kind"] (Yq K C n)) (bL:Binds K fdL ["self", "spot", "place", "term", "kind"] []) :
 FnOk P w K mg base CX0 (n + 3) f fd ["self", "demand"] (Ow K C n):=by
 refine F.ok Lh (8:) (4:)
 ·obtain ⟨nm,ks,ks1,x,dx,tu,kb,st,wt,dp,wd,lm,sv,fv,t0,ms,s,d,rfl,_⟩:=h
  rfl
 obtain ⟨nm,ks,ks1,x,dx,tu,kb,st,wt,dp,wd,lm,sv,fv,t0,ms,s,d,rfl,D,hkb,hWG,hdp,hd,hnk,hn,hO,hT,hQ⟩:=h
 have hrn:Room (n + 2) _:=hr
 refine ⟨_,(Qe (Ql (i:=2) Lh.nd rfl (7:) (Qm QK (Qi Qg (Qi Qg (Zg (Ze hr) (QY (pv 0) rfl) (pv 1) (3:)) Qb (3:)) Qb (3:)) Qb))
  (Qe (Ql (i:=3) Lh.nd rfl (7:) (Qi Qx (Qi Qg (QY (pv 0) rfl) Qb (3:)) (25:) (3:)))
  (Qh (QL PassesOwn.never rfl (WI rfl G.zip (Qa (Qs RO hr (Qa (Qi Qg (QY (pv 0) rfl) Qb (3:)) (Qa (Qi Qg (pv 3) Qb (3:)) Qd)) (11:)) (Qa (Qi Qg (pv 3) Qb (3:)) Qd))) (Zb rfl (Qw (Qq (i:=4) Lh.nd rfl (7:)) (Qw (Qq (i:=5) Lh.nd rfl (7:)) QX)))
   (Qh (QJ (Yh (pv 0) T.cl mL FL hrn bL .nil YC (Qa ((Qv (Qa (pv 2) (Qa (pv 1) (Qa (pv 4) Qd))))) (Qa (Qv Qd) (Qa (pv 5) (Qa (25:) Qd))))))))))),?_⟩
 have hx:=D.hx
 obtain ⟨kvs,a1,a2,a3⟩:=id D.hst
 have hdp':H dp=some (.tup (([Sum.inl d.1,Sum.inr d.2]:List Key).map kV)):=hdp
 have ev:=JO d kvs
 have hdk:=D.dk d hd
 cases ef:kvs.find? fun q=>decide (q.1.1=d) with
 | none =>
  rw [Stt.ds,← a1,List.map_map] at hd
  obtain ⟨q,hq,e⟩:=List.mem_map.mp hd
  have:=List.find?_eq_none.mp ef q hq
  have e:q.1.1=d:=e
  simp [e] at this
 | some q =>
  obtain ⟨sa,sp0,pl0,eq2,s1,⟨vd0,row0,s2,_,_⟩,_⟩:=a3 q (List.mem_of_find?_eq_some ef)
  have en0:nOf s d=q.1.2.sp.n:=by
   unfold nOf
   rw [← a1,List.find?_map]
   show (((kvs.find? fun q=>decide (q.1.1=d)).map (·.1)).map fun q=>q.2.sp.n).getD 0=_
   rw [ef];rfl
  generalize hn0:q.1.2.sp.n=n0 at s2 en0
  rw [ef] at ev
  have hget:=DGet.t a2 hdp'
  rw [ev,show (some q).map (·.2)=some q.2 from rfl,eq2] at hget
  have hT0:=hT H (SameD.refl _ _ _ _)
  refine ⟨_,rfl,x,C,dx,_,_,rfl,hx,T.cl,T.nS,rfl,_,rfl,st,_,rfl,hget,sa,_,0,_,rfl,rfl,s1,rfl,sp0,_,0,_,rfl,rfl,s2,rfl,_,_,rfl,rfl,?_⟩
  obtain ⟨i,hi⟩ : ∃ i:Nat,d.1=(i:Int):=⟨d.1.toNat,(Int.toNat_of_nonneg hdk.1).symm⟩
  have hil:i < ms.length:=by have:=hdk.2.1;rw [hO.cn];lia
  have hmm:=List.getElem_mem hil
  have hat:atI (ms.map fun m=>V.ref m.1) d.1=some (.ref ms[i].1):=by rw [hi];exact Qy (by rw [List.getElem?_map,List.getElem?_eq_getElem hil];rfl)
  refine ⟨_,rfl,x,C,dx,_,_,rfl,hx,T.cl,T.nT,rfl,tu,_,2,_,rfl,rfl,hT0.tu,rfl,_,rfl,dp,_,0,_,rfl,rfl,SqT.of hdp,rfl,lm,_,_,_,rfl,rfl,hT0.lm,hat,?_⟩
  obtain ⟨m1,m2,m3⟩:=hT0.mo _ hmm
  obtain ⟨kd,hkf,erow,hkm⟩:=QV (hO.kd _ hmm)
  have hru:=hO.ru _ hmm
  rw [erow] at hru
  refine ⟨_,rfl,x,C,dx,_,_,rfl,hx,T.cl,T.nT,rfl,tu,_,0,_,rfl,rfl,hT0.tu,rfl,_,rfl,_,_,0,_,rfl,rfl,m1,rfl,wd,_,ks1,kd,rfl,hT0.wd,hO.wo,hkf,fun H1 g1=>?_⟩
  have hT1:=hT H1 (SameD.of g1)
  obtain ⟨m1',m2',m3'⟩:=hT1.mo _ hmm
  have hml:=m3'.length
  have hxl:(kd.2.2.2.map fun t=>V.ref t.1).length=ms[i].2.2.2.1.length:=by rw [List.length_map,hru,hml]
  refine ⟨_,rfl,_,_,1,_,rfl,rfl,m1',rfl,kd.2.2.1,ms[i].2.2.1,_,_,rfl,(hT1.wd.2 kd hkm).2.1,m2',?_⟩
  have em:QB ks1 ms d=(kd.2.2.2.zip ms[i].2.2.2.2).map fun q=>((q.1.2.1,q.1.2.2.2),q.2):=by unfold QB;rw [hi,Int.toNat_natCast,List.getElem?_eq_getElem hil];show List.map _ _=_;rw [erow]
  rw [Xs,em,en0] at hQ
  refine JJ (K:=K) (xs:=kd.2.2.2.map fun t=>V.ref t.1) (ys:=ms[i].2.2.2.1) hxl (fun j σ H'=>∃ (c4 c5:Option V) (fv':V),σ=[some (.ref x),some (.ref dp),some (.int ((n0:Int)+1)),some (.ref ms[i].1),c4,c5]∧SameD x st wt H H'∧DmS K C nm ks H' x dx tu kb st wt fv' (W6 (46:) n (n0 + 1) d (((kd.2.2.2.zip ms[i].2.2.2.2).map fun q=>((q.1.2.1,q.1.2.2.2),q.2)).take j) s))
   ⟨none,none,fv,rfl,SameD.of g1,D.same g1⟩ ?_ ?_ ?_
  ·rintro j σ H' _ ⟨c4,c5,fv',_,g,_⟩
   have hT':=hT H' g
   exact ⟨(hT'.wd.2 kd hkm).2.1,(hT'.mo _ hmm).2.1⟩
  ·rintro j u v p σ H' hu hv hp ⟨c4,c5,fv',rfl,g,D'⟩
   have hj:j < kd.2.2.2.length:=by
    have:=(List.getElem?_eq_some_iff.mp hu).1
    rwa [List.length_map] at this
   have hjt:j < ms[i].2.2.2.2.length:=by lia
   obtain rfl:u=.ref kd.2.2.2[j].1:=by
    rw [List.getElem?_map,List.getElem?_eq_getElem hj] at hu
    exact (Option.some.inj hu).symm
   have gp:=Qf hp (.tup [.ref kd.2.2.2[j].1,v])
   have g1':=g.trans (SameD.of gp)
   refine ⟨p,_,rfl,SqT.of Qc,rfl,_,_,rfl,_,_,rfl,rfl,?_⟩
   refine ⟨_,rfl,x,dx,_,rfl,gp _ _ D'.hx,rfl,_,rfl,_,rfl,_,rfl,(20:),fun sp hsp=>⟨(16:),fun pl hpl=>?_⟩⟩
   have g2':=Qf hsp (.tup [.int ((n0:Int)+1),.ref dp,.ref kd.2.2.2[j].1])
   have g3':=Qf hpl (.tup [])
   have gpp:=gp.trans (g2'.trans g3')
   have g3:=g.trans (SameD.of gpp)
   have hT3:=hT _ g3
   obtain ⟨r1,r2⟩:=(hT3.wd.2 kd hkm).2.2 _ (List.getElem_mem hj)
   obtain ⟨cv,hcv,hct⟩:=(hT3.mo _ hmm).2.2.get (List.getElem?_eq_getElem hjt)
   obtain rfl:cv=v:=Option.some.inj (hcv.symm.trans hv)
   refine ⟨_,rfl,_,rfl,dp,_,1,_,rfl,rfl,SqT.of (D.tup g3 hdp),rfl,?_⟩
   refine ⟨nm,ks,x,dx,tu,kb,st,wt,sp,pl,fv',cv,d.2,[],ms[i].2.2.2.2[j],⟨n0 + 1,some d,(kd.2.2.2[j].2.1,kd.2.2.2[j].2.2.2)⟩,_,rfl,D'.same gpp,D.kbAt g3 hkb,hWG,⟨.ref dp,kd.2.2.2[j].1,g3'.seqT (SqT.of Qc),⟨dp,rfl,D.tup g3 hdp⟩,_,r1,r2⟩,SqT.of Qc,by simpa using hn,hct,hO.tb _ hmm _ (List.getElem_mem hjt),hdk.2.2,hnk,fun H4 fv4 g4 D4=>?_⟩
   refine ⟨_,_,fv4,rfl,g3.trans g4,?_⟩
   have ez:((kd.2.2.2.zip ms[i].2.2.2.2).map fun q=>((q.1.2.1,q.1.2.2.2),q.2))[j]?=some ((kd.2.2.2[j].2.1,kd.2.2.2[j].2.2.2),ms[i].2.2.2.2[j]):=by
    rw [List.getElem?_map,List.getElem?_eq_getElem (by rw [List.length_zip];lia),List.getElem_zip];rfl
   rw [List.take_add_one,ez,W6,List.foldl_append]
   exact D4
  ·rintro σ H' ⟨c4,c5,fv',rfl,g,D'⟩
   rw [List.length_map,List.take_of_length_le (by rw [List.length_map,List.length_zip];lia)] at D'
   exact hQ H' fv' g D'
end
end K61
namespace L2
open PySem
theorem Uq {c:TT} {tb:TS} {D:Ends} {σ:St} {H:Hp} (J:Nat→St→Hp→Prop) (m0:Nat) (h0:J m0 σ H)
 (hs:∀ m σ H,J m σ H→c σ H fun b H1=>if b=true then tb { D with nx:=fun σ' H'=>∃ m',m' < m∧J m' σ' H',ct:=fun σ' H'=>∃ m',m' < m∧J m' σ' H',bk:=D.nx } σ H1 else D.nx σ H1)
 (mono:∀ σ H (Q Q':Bool→Hp→Prop),(∀ b H1,Q b H1→Q' b H1)→c σ H Q→c σ H Q'):V9 c tb D σ H:=by
 refine ⟨J,⟨m0,h0⟩,?_⟩
 intro m σ H p
 refine mono σ H _ _ (fun b H1 q=>?_) (hs m σ H p)
 cases b with
 | true=>exact ⟨_,fun σ' H' ⟨m',l,p'⟩=>⟨m',l,p'⟩,q⟩
 | false=>exact q
end L2
namespace K61
open PySem L2 TM TT K9 K11
section
variable {P:Program} {w:World} {K:PySem.W.Frag} {mg:Str→Option Value} {base:Heap} {f:Addr} {fd:FuncData} {C:Addr}
theorem Wh:FnScope ["self", "turning", "wood", "done"] ["self", "turning", "wood"] (defScope XX):=(1:)
theorem ME {n:Nat} (F:Fun K "__init__" "Demands.__init__" XX f fd) (G:Gm mg) (T:DmT K mg C) (RA:Fn P w K mg base 1 "row_above" ["wood"] (Uu K)) {fL:Addr} {fdL:FuncData} (mL:Meth K C "look" fL) (FL:FnOk P w K mg base CX0 (n + 2) fL fdL ["self", "spot", "place", "term", "kind"] (Yq K C n)) (bL:Binds K fdL ["self", "spot", "place", "term", "kind"] [])
 {fB:Addr} {fdB:FuncData} (mB:Meth K C "look_by" fB) (FB:FnOk P w K mg base CX0 (n + 3) fB fdB ["self", "demand"] (Ow K C n)) (bB:Binds K fdB ["self", "demand"] []) :
 FnOk P w K mg base CX0 (n + 4) f fd ["self", "turning", "wood"] (Lk K C n):=by
 refine F.ok Wh (8:) (4:)
 ·obtain ⟨nm,x,dx,tu,wd,lm,wo,sv,ks1,ks,k01,k00,t0,ms,rfl,_⟩:=h
  rfl
 obtain ⟨nm,x,dx,tu,wd,lm,wo,sv,ks1,ks,k01,k00,t0,ms,rfl,hx,hTu,hO,hk01,hWo,hWF,hk00,hnk,hn,hQ⟩:=h
 have hr3:Room (n + 3) _:=hr
 have hrn:Room (n + 2) _:=hr3.mono (11:)
 have htu:=hTu.tu
 have hW1:=hTu.wd
 have hsv:=hTu.st
 refine ⟨_,(Qe (Y1 (pv 0) (pv 1) rfl)
  (Qe (Y1 (pv 0) (QE (QZ rfl) rfl G.dct PyProof.Rows.boot_dict (Qa (Q6 (CompG.many (xs:=["kind", "rows"]) (caps:=[]) (cap:=[]) (cs:=[]) rfl rfl (0:) (0:) (0:) (0:) (0:) (0:) rfl rfl rfl) rfl (QO (pv 2)) (W8 (CompG.many (xs:=["kind", "rows"]) (caps:=[]) (cap:=[]) (cs:=[]) rfl rfl (0:) (0:) (0:) (0:) (0:) (0:) rfl rfl rfl) rfl) (fun _ _ _ _=>ZB) (fun _ _ _ _=>(Qv (Qa (pv 0) (Qa (QE (r:=Gn K) (QZ rfl) rfl G.dct PyProof.Rows.boot_dict (Qa (pv 1) Qd)) Qd))))) Qd)) rfl)
  (Qe (Y1 (pv 0) Xx rfl)
  (Qe (Y1 (pv 0) (QM Qd) rfl)
  (Qe (Y1 (pv 0) Q5 rfl)
  (Qe (QJ (Yh (pv 0) T.cl mL FL hrn bL .nil YC (Qa ((Qv (Qa (Qb) (Qa (Q5) (Qa (Qs RA hr (Qa (25:) Qd) (11:)) Qd))))) (Qa (Qv Qd) (Qa (25:) (Qa (Qi Qg (Qi Qx (pv 2) Qb (3:)) Qb (3:)) Qd))))))
  (Qe (Ql (i:=3) Wh.nd rfl (7:) Qb)
  (Qh (YE PassesOwn.never (Qp Jn (pv 3) (Qr Qn rfl G.len PySem.boot_len (Qa (QY (pv 0) rfl) Qd)) (Qt _)) (Qe (QJ (Yh (pv 0) T.cl mB FB hr3 bB .nil YC (Qa (Qi Qx (QY (pv 0) rfl) (pv 3) (3:)) Qd)))
  (Qh (Nc (i:=3) Wh.nd rfl (7:) Qb Ni)))))))))))),?_⟩
 have i0:InsAt H x:=⟨_,_,_,hx⟩
 refine ⟨_,rfl,_,rfl,x,C,dx,_,rfl,hx,T.cl,T.nT,(by show 0 < 1000;decide),?_⟩
 rw [f1]
 have g1:SameX x H (upd H x (.ins C dx (fl1 tu))):=SameX.upd
 generalize hH1:upd H x (.ins C dx (fl1 tu))=H1 at g1 ⊢
 have hx1:H1 x=some (.ins C dx (fl1 tu)):=by rw [← hH1];exact Qc
 have hWo1:=WoodAt.insX i0 g1 hWo
 have hnkd:=hWF.ok.nd
 have hkl:=hWF.ok.len
 refine ⟨_,rfl,wo,rfl,⟨_,hWo1.1⟩,fun acc hacc=>?_⟩
 refine Ui (K:=K) (xs:=ks.map fun k=>V.ref k.1) (cs:=[]) (tt:=fun _ H Q=>Q true H) (te:=Vy (Zd (ZI 0) (Zd (tCB (Gn K) (Zd (ZI 1) Yu)) Yu))) (fun i ys H'=>∃ l:List (KdT × Addr × Addr),ys=l.map (fun q=>V.ref q.2.1)∧l.map (·.1)=ks.take i∧(∀ q ∈ l,SqT K H' q.2.1 [.str q.1.2.1,.ref q.2.2]∧H' q.2.2=some (.dK (q.1.2.2.2.map fun r=>((Sum.inr r.2.1:Key),V.ref r.2.2.1))))∧H' acc=some (.lst ys)∧Same H1 H')
  ⟨[],rfl,rfl,fun q hq=>(nomatch hq),Qc,Qf hacc _⟩ ?_ ?_ ?_
 ·rintro i ys H' _ ⟨l,_,_,_,_,g⟩
  exact g.seq hWo1.1
 ·rintro i y ys H' hi hy ⟨l,rfl,hl1,hl2,hya,g⟩
  have hik:i < ks.length:=by rw [List.length_map] at hi;exact hi
  obtain rfl:y=.ref ks[i].1:=by
   rw [List.getElem?_map,List.getElem?_eq_getElem hik] at hy
   exact (Option.some.inj hy).symm
  have hkm:=List.getElem_mem hik
  obtain ⟨hk1,hkr⟩:=(hWo1.same g).2 _ hkm
  have hro:=hWF.ok.rows _ hkm
  have hrl:=hro.len
  have hll:l.length=i:=by
   have:=congrArg List.length hl1
   rw [List.length_map,List.length_take] at this
   lia
  refine ⟨ks[i].1,_,_,rfl,hk1,Q8 ⟨_,rfl,_,rfl,ks[i].2.2.1,ks[i].2.2.2.map (fun r=>(r.1,r.2.1,V.ref r.2.2.1)),rfl,(by rw [List.map_map];exact hkr.1),fun t ht=>?_,(by rw [List.map_map];exact hro.nd),(15:),fun d hd=>⟨(23:),fun p2 hp2=>?_⟩⟩⟩
  ·obtain ⟨r,hr,rfl⟩:=List.mem_map.mp ht
   exact (hkr.2 r hr).1
  have ed:(ks[i].2.2.2.map (fun r=>(r.1,r.2.1,V.ref r.2.2.1))).map (fun t=>(54:))=ks[i].2.2.2.map fun r=>((Sum.inr r.2.1:Key),V.ref r.2.2.1):=by rw [List.map_map];rfl
  rw [ed] at hp2 ⊢
  have e1:=Qf hd (.dK (ks[i].2.2.2.map fun r=>((Sum.inr r.2.1:Key),V.ref r.2.2.1)))
  have e2:=Qf hp2 (.tup [.str ks[i].2.1,.ref d])
  have e12:=e1.trans e2
  have hya2:=e12 _ _ hya
  have hda:d≠acc:=fun z=>by rw [z,hya] at hd;cases hd
  refine QI (ys:=l.map fun q=>V.ref q.2.1) hi hya2 (15:) ⟨l ++ [(ks[i],p2,d)],by simp,?_,fun q hq=>?_,Qc,fun b u e=>by rw [Qj (Qk e hacc)];exact e12 _ _ (g _ _ e)⟩
  ·rw [List.map_append,hl1,List.take_add_one,List.getElem?_eq_getElem hik];rfl
  ·rcases List.mem_append.mp hq with z | z
   ·obtain ⟨a1,a2⟩:=hl2 q z
    refine ⟨(e12.seqT a1).put hya2,?_⟩
    rw [Qj (ne_of (e12 _ _ a2) hya2 (12:))]
    exact e12 _ _ a2
   ·have:q=(ks[i],p2,d):=by simpa using z
    rw [this]
    refine ⟨SqT.put (SqT.of Qc) hya2,?_⟩
    show upd _ acc _ d=_
    rw [Qj hda]
    exact e2 _ _ Qc
 rintro ys H2 ⟨l,rfl,hl1,hl2,hya,g2⟩
 rw [List.length_map,List.take_length] at hl1
 have hll:l.length=ks.length:=by
  have:=congrArg List.length hl1
  rwa [List.length_map] at this
 refine ⟨acc,l.map (fun q=>(q.2.1,q.1.2.1,V.ref q.2.2)),rfl,(by rw [List.map_map];exact SqL.of hya),fun t ht=>?_,?_,(15:),fun kb hkb=>?_⟩
 ·obtain ⟨q,hq,rfl⟩:=List.mem_map.mp ht
  exact (hl2 q hq).1
 ·rw [List.map_map]
  have:(l.map ((fun t:Addr × Str × V=>t.2.1) ∘ fun q:KdT × Addr × Addr=>(q.2.1,q.1.2.1,V.ref q.2.2)))=ks.map fun k=>k.2.1:=by rw [← hl1,List.map_map];rfl
  rw [this]
  exact hnkd
 have ed:(l.map (fun q:KdT × Addr × Addr=>(q.2.1,q.1.2.1,V.ref q.2.2))).map (fun t=>(54:))=(l.map fun q=>(q.1,q.2.2)).map fun q=>((Sum.inr q.1.2.1:Key),V.ref q.2):=by rw [List.map_map,List.map_map];rfl
 rw [ed]
 have g3:=Qf hkb (.dK ((l.map fun q=>(q.1,q.2.2)).map fun q=>((Sum.inr q.1.2.1:Key),V.ref q.2)))
 have g13:=g2.trans g3
 have hkb3:KbAt K (upd H2 kb (.dK ((l.map fun q=>(q.1,q.2.2)).map fun q=>((Sum.inr q.1.2.1:Key),V.ref q.2)))) kb ks:=by
  refine ⟨l.map fun q=>(q.1,q.2.2),by rw [List.map_map];exact hl1,Qc,fun q hq=>?_⟩
  obtain ⟨q',hq',rfl⟩:=List.mem_map.mp hq
  refine ⟨g3 _ _ (hl2 q' hq').2,fun r hr=>?_⟩
  have hqk:q'.1 ∈ ks:=by rw [← hl1];exact List.mem_map.mpr ⟨q',hq',rfl⟩
  exact g13.seqT (((hWo1.2 _ hqk).2.2 r hr).2)
 generalize upd H2 kb (.dK ((l.map fun q=>(q.1,q.2.2)).map fun q=>((Sum.inr q.1.2.1:Key),V.ref q.2)))=H3 at g3 g13 hkb3 ⊢
 have hx3:=g13 _ _ hx1
 have i3:InsAt H3 x:=⟨_,_,_,hx3⟩
 refine ⟨_,rfl,x,C,dx,_,rfl,hx3,T.cl,T.nK,(by show 1 < 1000;decide),?_⟩
 rw [f2]
 have g4':SameX x H3 (upd H3 x (.ins C dx (fl2 tu kb))):=SameX.upd
 generalize hH4:upd H3 x (.ins C dx (fl2 tu kb))=H4 at g4' ⊢
 have hx4:H4 x=some (.ins C dx (fl2 tu kb)):=by rw [← hH4];exact Qc
 refine fun st hst=>⟨_,rfl,x,C,dx,_,rfl,(Qf hst _) _ _ hx4,T.cl,T.nS,(by show 2 < 1000;decide),?_⟩
 rw [f3]
 have g5:=Qf hst (.dT [])
 have g6':SameX x (upd H4 st (.dT [])) (upd (upd H4 st (.dT [])) x (.ins C dx (fl3 tu kb st))):=SameX.upd
 have g36:SameX x H3 (upd (upd H4 st (.dT [])) x (.ins C dx (fl3 tu kb st))):=g4'.trans ((SameX.of g5).trans g6')
 generalize hH6:upd (upd H4 st (.dT [])) x (.ins C dx (fl3 tu kb st))=H6 at g36 ⊢
 have hx6:H6 x=some (.ins C dx (fl3 tu kb st)):=by rw [← hH6];exact Qc
 refine ⟨(16:),fun wt hwt=>⟨_,rfl,x,C,dx,_,rfl,(Qf hwt _) _ _ hx6,T.cl,T.nW,(by show 3 < 1000;decide),?_⟩⟩
 rw [f4]
 have g7:=Qf hwt (.lst [])
 have hwx:wt≠x:=fun z=>by rw [z,hx6] at hwt;cases hwt
 have g8':SameX x (upd H6 wt (.lst [])) (upd (upd H6 wt (.lst [])) x (.ins C dx (fl4 tu kb st wt))):=SameX.upd
 have g38:SameX x H3 (upd (upd H6 wt (.lst [])) x (.ins C dx (fl4 tu kb st wt))):=g36.trans ((SameX.of g7).trans g8')
 have hwt8:upd (upd H6 wt (.lst [])) x (.ins C dx (fl4 tu kb st wt)) wt=some (.lst []):=by rw [Qj hwx];exact Qc
 generalize hH8:upd (upd H6 wt (.lst [])) x (.ins C dx (fl4 tu kb st wt))=H8 at g38 hwt8 ⊢
 have hx8:H8 x=some (.ins C dx (fl4 tu kb st wt)):=by rw [← hH8];exact Qc
 refine ⟨_,rfl,x,C,dx,_,rfl,hx8,T.cl,T.nF,(by show 4 < 1000;decide),?_⟩
 rw [f5]
 have g9':SameX x H8 (upd H8 x (.ins C dx (YY tu kb st wt .non))):=SameX.upd
 have g39:=g38.trans g9'
 have hwt9:upd H8 x (.ins C dx (YY tu kb st wt .non)) wt=some (.lst []):=by rw [Qj hwx];exact hwt8
 generalize hH9:upd H8 x (.ins C dx (YY tu kb st wt .non))=H9 at g39 hwt9 ⊢
 have hx9:H9 x=some (.ins C dx (YY tu kb st wt .non)):=by rw [← hH9];exact Qc
 have i9:InsAt H9 x:=⟨_,_,_,hx9⟩
 have g09:SameX x H H9:=g1.trans ((SameX.of g13).trans g39)
 refine ⟨_,rfl,x,dx,_,rfl,hx9,rfl,_,rfl,tu,_,0,_,rfl,rfl,i0.seqT g09 htu,rfl,wd,ks1,k01,rfl,WoodAt.insX i0 g09 hW1,hk01,fun rw kk H10 g10 hrw hkk=>⟨(20:),fun sp hsp=>⟨(16:),fun pl hpl=>?_⟩⟩⟩
 have g11:=Qf hsp (.tup [.int 0,.non,.ref rw])
 have g12:=Qf hpl (.tup [])
 have g9c:=g10.trans (g11.trans g12)
 have g0c:SameX x H _:=g09.trans (SameX.of g9c)
 have hat:atI (52:) 0=some (.ref k00.1):=Qy (j:=0) (by rw [List.getElem?_map,hk00];rfl)
 have hWoc:=WoodAt.insX i0 g0c hWo
 refine ⟨_,rfl,tu,_,1,_,rfl,rfl,i0.seqT g0c htu,rfl,_,rfl,wo,_,0,_,rfl,rfl,hWoc.1,hat,k00.1,_,0,_,rfl,rfl,(hWoc.2 k00 (List.mem_of_getElem? hk00)).1,rfl,?_⟩
 have hspc:SqT K (upd (upd H10 sp (.tup [.int 0,.non,.ref rw])) pl (.tup [])) sp [.int 0,.non,.ref rw]:=g12.seqT (SqT.of Qc)
 have hrwc:=(g11.trans g12).seqT hrw
 have hkkc:=(g11.trans g12).seqT hkk
 have hst9:H9 st=some (.dT []):=by
  have n1:st≠x:=fun z=>by rw [z,hx4] at hst;cases hst
  have n2:st≠wt:=fun z=>by
   rw [← z,← hH6,Qj n1] at hwt
   rw [show upd H4 st (.dT []) st=some (.dT []) from Qc] at hwt
   cases hwt
  rw [← hH9,Qj n1,← hH8,Qj n1,Qj n2,← hH6,Qj n1]
  exact Qc
 have D0:DmS K C nm ks H9 x dx tu kb st wt .non ⟨[],none⟩:=⟨hx9,⟨[],rfl,hst9,fun q hq=>(nomatch hq)⟩,⟨[],rfl,hwt9,fun q hq=>(nomatch hq)⟩,List.nodup_nil,fun d hd=>(nomatch hd),rfl⟩
 have nSt:H st=none:=by
  cases e:H st with
  | none=>rfl
  | some u =>
   have n1:st≠x:=fun z=>by rw [z,hx4] at hst;cases hst
   have:=(g1.trans ((SameX.of g13).trans g4')) st u n1 e
   rw [hst] at this;cases this
 have nWt:H wt=none:=by
  cases e:H wt with
  | none=>rfl
  | some u =>
   have:=(g1.trans ((SameX.of g13).trans g36)) wt u hwx e
   rw [hwt] at this;cases this
 refine ⟨nm,ks,x,dx,tu,kb,st,wt,sp,pl,.non,sv,k00.2.1,[],t0,⟨0,none,(S [],[k01.2.1])⟩,⟨[],none⟩,rfl,D0.same g9c,(hkb3.insX i3 g39).same g9c,hWF,⟨.non,rw,hspc,rfl,kk,hrwc,hkkc⟩,SqT.of Qc,by simpa using hn,hsv.mono fun _ _=>i0.seqT g0c,hO.st,⟨k00,List.mem_of_getElem? hk00,rfl⟩,hnk,fun H' fv' gx D'=>?_⟩
 have D':DmS K C nm ks H' x dx tu kb st wt fv' (Y4 (46:) n t0 k01.2.1 k00.2.1):=D'
 have old:∀ {H''},SameD x st wt H' H''→SameX x H H'':=fun {H''} g b u nb e=>g b u nb (Qk e nSt) (Qk e nWt) (gx b u nb (Qk e nSt) (Qk e nWt) (g0c b u nb e))
 have stab:∀ {H''},SameD x st wt H' H''→∀ H3,SameD x st wt H'' H3→TuAt K H3 tu wd sv lm ks1 t0 ms:=fun {H''} g H3 g3=>hTu.insX i0 (old (g.trans g3))
 have hkb':=(D0.same g9c).kbAt gx ((hkb3.insX i3 g39).same g9c)
 generalize Y4 (46:) n t0 k01.2.1 k00.2.1=s0 at D' hQ
 refine Uq (fun m σ H''=>∃ (j:Nat) (fv:V) (s:Stt),σ=[some (.ref x),some (.ref tu),some (.ref wo),some (.int (j:Int))]∧SameD x st wt H' H''∧DmS K C nm ks H'' x dx tu kb st wt fv s∧m + j=nm * ks.length + 1∧Ug (46:) n (QB ks1 ms) m j s=Ug (46:) n (QB ks1 ms) (nm * ks.length + 1) 0 s0) (nm * ks.length + 1)
  ⟨0,fv',_,rfl,SameD.refl _ _ _ _,D',rfl,rfl⟩ ?_ ?_
 ·rintro m σ H'' ⟨j,fv,s,rfl,g,D,hm,hrun⟩
  obtain ⟨ws,b1,b2,b3⟩:=id D.hwt
  have hlen:=ZL D.nd D.dk
  have hwl:ws.length=s.ds.length:=by rw [← b1,List.length_map]
  refine ⟨_,rfl,_,rfl,x,C,dx,_,_,rfl,D.hx,T.cl,T.nW,rfl,wt,_,rfl,.inl (SqL.of b2),_,_,rfl,rfl,_,rfl,Yl (fun c=>?_) (fun c=>?_)⟩
  ·have c':(j:Int) < (((ws.map fun q=>V.ref q.1).length:Nat):Int):=of_decide_eq_true c
   rw [List.length_map] at c'
   have hjw:j < ws.length:=by lia
   have hjd:j < s.ds.length:=by lia
   have hdj:s.ds[j]?=some ws[j].2:=by rw [← b1,List.getElem?_map,List.getElem?_eq_getElem hjw];rfl
   refine ⟨_,rfl,x,dx,_,rfl,D.hx,rfl,_,rfl,x,C,dx,_,_,rfl,D.hx,T.cl,T.nW,rfl,_,rfl,wt,_,_,_,rfl,rfl,SqL.of b2,Qy (by rw [List.getElem?_map,List.getElem?_eq_getElem hjw];rfl),?_⟩
   refine ⟨nm,ks,ks1,x,dx,tu,kb,st,wt,ws[j].1,wd,lm,sv,fv,t0,ms,s,ws[j].2,rfl,D,D'.kbAt g hkb',hWF,b3 _ (List.getElem_mem hjw),List.mem_of_getElem? hdj,hnk,hn,hO,stab g,fun H3 fv3 g3 D3=>?_⟩
   refine ⟨_,rfl,_,_,rfl,rfl,m - 1,by lia,j + 1,fv3,_,rfl,g.trans g3,D3,by lia,?_⟩
   obtain ⟨m',rfl⟩ : ∃ m',m=m' + 1:=⟨m - 1,by lia⟩
   rw [← hrun,Ug,hdj]
   rfl
  ·have c':¬ ((j:Int) < (((ws.map fun q=>V.ref q.1).length:Nat):Int)):=fun z=>c (decide_eq_true z)
   rw [List.length_map] at c'
   have e0:Ug (46:) n (QB ks1 ms) m j s=s:=by
    cases m with
    | zero=>rfl
    | succ m=>rw [Ug,List.getElem?_eq_none (11:)]
   rw [← hrun,e0] at hQ
   exact hQ H'' kb st wt fv (old g) D
 ·intro σ H Q Q' hm h
  obtain ⟨v1,h1,v2,h2,x1,x2,x3,x4,x5,h3,h4,h5,h6,h7,x6,x7,h8,h9,x8,x9,h10,h11,x10,h12,h13⟩:=h
  exact ⟨v1,h1,v2,h2,x1,x2,x3,x4,x5,h3,h4,h5,h6,h7,x6,x7,h8,h9,x8,x9,h10,h11,x10,h12,hm _ _ h13⟩
end
end K61
namespace L2
open PySem PySem.Spec PyProof.Rows
section
variable {prog:Program} {w:World} {A:Around} {E:Value→Shared→Prop} {s:Shared}
end
section
variable {X:Cx} {e:Expr} {te:TE} {p pos p2 pos2:Pos}
end
end L2
namespace L2
open PySem PySem.Spec PyProof.Rows
def Itv (K:PySem.W.Frag) (a:Addr) (n:Nat):It :=
 ⟨fun i H=>∃ xs x,SqL K H a xs∧xs.length=n∧i < n∧xs[n - 1 - i]?=some x,fun i H x H'=>H'=H∧∀ xs,SqL K H a xs→xs[n - 1 - i]?=some x,fun i H=>i=n⟩
theorem Ge {P:Program} {w:World} {K:PySem.W.Frag} {tg:Expr} (a it:Addr) (n:Nat):Turn P w K tg (Itv K a n) [it] it (fun i h=>h.IsRevIter it a ((n:Int) - 1 - (i:Int))) where
 mem:=by simp
 obj:=fun i h st b hb=>by
  have e:b=it:=by simpa using hb
  subst e
  obtain ⟨o,e,c,d⟩:=st
  exact (48:)
 keep:=fun i h h' st k=>st.at fun o e=>k it (27:) o e
 item:=by
  intro X hP hw hK hc i pins s σ H E I hf st hg
  subst hP hw hK
  obtain ⟨xs,x,hq,hn,hi,hx⟩:=hg
  obtain ⟨its,rv,p,hz⟩:=I.list hq
  obtain ⟨u,hu,ru⟩:=rv.get hx
  obtain ⟨f0,f1,f2,f3,f4,f5⟩:=hf it (27:)
  have e0:(n:Int) - 1 - (i:Int)=((n - 1 - i:Nat):Int):=by lia
  have st2:s.heap.IsRevIter it a ((n - 1 - i:Nat):Int):=by rw [← e0];exact st
  refine wpAny_pyNext_rev_item st2 p.isList (x:=u) (by simpa using hu) fun h' st' sb=>?_
  have I1:Inv X pins σ H { s with heap:=h' }:=I.turned (t':=s.toks) (fun b o hb e=>(sb.2 b hb).trans e) f0 f1 f3 f4 f5
  obtain ⟨o,e,c,d⟩:=id st'
  have e1:((n - 1 - i:Nat):Int) - 1=(n:Int) - 1 - ((i + 1:Nat):Int):=by lia
  have st3:h'.IsRevIter it a ((n:Int) - 1 - ((i + 1:Nat):Int)):=by rw [← e1];exact st'
  exact ⟨u,rfl,Xm (s:={ s with heap:=h' }) e c d (18:) ⟨x,H,I1,ru,⟨rfl,fun ys hy=>by rw [I.list_inj hy hq];exact hx⟩,st3,fun b hb=>(hf b hb).1⟩⟩
 done:=by
  intro X hP hw hK hc i pins s σ H E I hf st hg
  subst hP hw hK
  have hi:i=n:=hg
  subst hi
  obtain ⟨f0,f1,f2,f3,f4,f5⟩:=hf it (27:)
  have e0:(i:Int) - 1 - (i:Int)=-1:=by lia
  have st2:s.heap.IsRevIter it a (-1):=by rw [← e0];exact st
  exact wpAny_pyNext_rev_end (I.ok.hd hc) st2 fun h' eb=>(36:)
 self:=fun _ _ _ _ _ st h=>wpAny_pyIter_revIter st h
section
variable {X:Cx} {tg:Expr}
def Ot (K:PySem.W.Frag) (ta:TA):TI:=fun σ H R=>ta σ H fun vs H1=>∃ (l:Addr) (ys:List V),vs=[.ref l]∧SqL K H1 l ys∧R (Itv K l ys.length) H1
theorem ML {a:Expr} {ta:TA} {p pos:Pos} (hg:Gl X "reversed") (hm:X.mg "reversed" = none) (ha:PA X [a] ta) (hs:starEach [a] X.env=[(false,eval a X.env)]:=by rfl):PI X tg (.Call (.Name "reversed" p) [a] [] pos) (Ot X.K ta):=by
 intro pins s σ H R I h
 refine Call_ (ZM I hg hm boot_reversed (PyProof.Rows.callWith_type1 (30:) hs rfl))
 obtain ⟨l,ys,e,hl,q⟩:=q1
 subst e
 cases r1 with
 | cons rr rr2 =>
  cases rr2
  obtain rfl:_=Value.ref l:=rr
  obtain ⟨its,rv,p,hz⟩:=I1.list hl
  refine call_reversed_list p.isList ?_
  have hlen:its.toArray.size=ys.length:=by rw [List.size_toArray];exact rv.length.symm
  have st:(s1.heap.push (revObj l ((its.toArray.size:Int) - 1))).IsRevIter s1.heap.objs.size l ((its.toArray.size:Int) - 1):=⟨_,Heap.get?_push_size _ rfl,rfl,rfl⟩
  refine wpAny_pyIter_revIter st ?_
  refine ⟨s1.heap.objs.size,[s1.heap.objs.size],_,_,H1,rfl,I1.kept (t':=s1.toks) fun b o e=>Heap.get?_push_of_some _ e,Ge l _ ys.length,?_,fun b hb=>?_,q⟩
  ·rw [hlen] at st
   have e0:(ys.length:Int) - 1 - ((0:Nat):Int)=(ys.length:Int) - 1:=by lia
   show Heap.IsRevIter _ _ _ ((ys.length:Int) - 1 - ((0:Nat):Int))
   rw [e0,hlen]
   exact st
  ·have e:b=s1.heap.objs.size:=by simpa using hb
   subst e
   exact I1.fpOk (9:) (I1.hok.fresh (9:))
end
theorem LZ {K:PySem.W.Frag} {a:Addr} {xs:List V} {g:TG} {tb:TS} {D:Ends} {σ:St} {H:Hp} (Pv:Nat→St→Hp→Prop) (h0:Pv 0 σ H) (hl:∀ i σ H,i≤xs.length→Pv i σ H→SqL K H a xs)
 (hs:∀ i x σ H,i < xs.length→xs[xs.length - 1 - i]?=some x→Pv i σ H→g x σ H fun σ2 H2=>tb { D with nx:=Pv (i + 1),ct:=Pv (i + 1),bk:=D.nx } σ2 H2) (hd:∀ σ H,Pv xs.length σ H→D.nx σ H) :
 ∃ W:Nat→Nat→St→Hp→Prop,(∃ m,W 0 m σ H)∧∀ i m σ H,W i m σ H →
  ((Itv K a xs.length).stop i H∧D.nx σ H)∨((Itv K a xs.length).go i H∧∃ N:St→Hp→Prop,(17:)∧∀ x H',(Itv K a xs.length).yld i H x H'→g x σ H' fun σ2 H2=>tb { D with nx:=N,ct:=N,bk:=D.nx } σ2 H2):=by
 refine (50:)
 rintro i m σ H ⟨rfl,hi,p⟩
 have q:=hl i σ H hi p
 by_cases hlt:i < xs.length
 ·refine .inr ⟨⟨xs,xs[xs.length - 1 - i],q,rfl,hlt,List.getElem?_eq_getElem _⟩,Pv (i + 1),fun σ' H' p'=>⟨xs.length - (i + 1),by lia,rfl,hlt,p'⟩,fun x H' y=>?_⟩
  obtain ⟨e,y⟩:=y
  subst e
  exact hs i x σ _ hlt (y xs q) p
 ·have e:i=xs.length:=by lia
  subst e
  exact .inl ⟨rfl,hd σ H p⟩
end L2
namespace L2
open PySem PySem.Spec PyProof.Rows HT
section
variable {prog:Program} {w:World} {A:Around} {E:Value→Shared→Prop} {s:Shared}
end
section
variable {X:Cx}
end
end L2
namespace L2
open PySem PySem.Spec PyProof.Rows HT
section
variable {prog:Program} {w:World} {A:Around} {E:Value→Shared→Prop} {s:Shared}
end
section
variable {X:Cx} {e st:Expr} {te:TE} {ts:TO} {pos p2:Pos}
end
end L2
namespace K61
open PySem L2 TM TT K9 K11
def HasLeaf (ks:List KdT) (s:Str):Prop:=∃ r ∈ rowsK ks s,r.2.2.2=[]
def WU (ks:List KdT) (s:Str):Str:=(((rowsK ks s).find? fun r=>r.2.2.2.isEmpty).map fun r=>r.2.1).getD (S [])
def QS (ks:List KdT) (s:Str):Tree Str:=.node (WU ks s) 0 []
theorem HasLeaf.find {ks:List KdT} {s:Str} (h:HasLeaf ks s):∃ r,(rowsK ks s).find? (fun r=>r.2.2.2.isEmpty)=some r∧WU ks s=r.2.1:=by
 obtain ⟨r0,h0,e0⟩:=h
 cases e:(rowsK ks s).find? fun r=>r.2.2.2.isEmpty with
 | none =>
  have:=List.find?_eq_none.mp e r0 h0
  rw [e0] at this
  exact absurd rfl this
 | some r=>exact ⟨r,rfl,by unfold WU;rw [e];rfl⟩
def J2 (K:PySem.W.Frag):Sp:=fun vs H Q _=>∃ (w:Addr) (kind:Str) (ks:List KdT),vs=[.ref w,.str kind]∧WoodAt K H w ks∧WoodOk ks∧HasLeaf ks kind∧∀ (v:V) (H':Hp),Same H H'→TrV K H' v (QS ks kind)→Q v H'
def J1 (K:PySem.W.Frag):Sp:=fun vs H Q _=>∃ (w kb:Addr) (name:Str) (mark:Int) (ks:List KdT) (ss:List Str),vs=[.ref w,.str name,.int mark,.ref kb]∧WoodAt K H w ks∧WoodOk ks∧SqT K H kb (ss.map V.str)∧ss.length≤10∧(∀ s ∈ ss,HasLeaf ks s) ∧
 ∀ (v:V) (H':Hp),Same H H'→TrV K H' v (.node name mark (ss.map (QS ks)))→Q v H'
def Zk (ks:List KdT) (r:Rw):Tree Str:=.node r.1 0 (r.2.map (QS ks))
def wayT (ks:List KdT) (w:List (Rw × Int)) (r:Rw):Tree Str:=w.foldr (fun q t=>putB (Zk ks q.1) [q.2] t) (Zk ks r)
def UD (ks:List KdT) (r:Rw):Prop:=r.2.length≤10∧∀ s ∈ r.2,HasLeaf ks s
def U9 (q:Rw × Int):Prop:=∃ i:Nat,q.2=(i:Int)∧i < q.1.2.length
def WyAt (K:PySem.W.Frag) (H:Hp) (w:List (Addr × Rw × Int)):Prop:=∀ q ∈ w,∃ ra,SqT K H q.1 [.ref ra,.int 0,.int q.2.2]∧RwAt K H ra q.2.1
def YH (K:PySem.W.Frag):Sp:=fun vs H Q _=>∃ (wd lw ra:Addr) (ks:List KdT) (w:List (Addr × Rw × Int)) (r:Rw) (u:Tree Str),vs=[.ref wd,.ref lw,.ref ra,.int 0]∧WoodAt K H wd ks∧WoodOk ks∧H lw=some (.lst (w.map fun q=>V.ref q.1))∧WyAt K H w∧RwAt K H ra r∧UD ks r∧(∀ q ∈ w,UD ks q.2.1∧U9 q.2)∧(wayT ks (w.map (·.2)) r).bs[0]?=some u ∧
 ∀ (v:V) (H':Hp),Same H H'→TrV K H' v u→Q v H'
abbrev PI' (p:List Int):List V:=p.map V.int
def G1 (K:PySem.W.Frag):Sp:=fun vs H Q _=>∃ (b:Addr) (bs:List V) (i:Int),vs=[.ref b,.int i]∧SqT K H b bs∧Q (.bl (decide (0≤i∧i < (bs.length:Int)))) H
def Nr (K:PySem.W.Frag):Sp:=fun vs H Q _=>∃ (v:V) (t:Tree Str) (pl:Addr) (p:List Int),vs=[v,.ref pl]∧TrV K H v t∧SqT K H pl (PI' p)∧(∀ v' u,atT t p=some u→TrV K H v' u→Q v' H)∧(atT t p=none→Q .non H)
def Yp (K:PySem.W.Frag) (n:Nat):Sp:=fun vs H Q _=>∃ (v:V) (t:Tree Str) (pl:Addr) (p:List Int) (o:V) (ot:Tree Str),vs=[v,.ref pl,o]∧TrV K H v t∧SqT K H pl (PI' p)∧TrV K H o ot∧p.length + 1≤n∧(∃ u,atT t p=some u) ∧
 ∀ v' H',Same H H'→TrV K H' v' (putB t p ot)→Q v' H'
def Xc (K:PySem.W.Frag):Sp:=fun vs H Q _=>∃ (v:V) (t:Tree Str) (pl:Addr) (p:List Int) (o:V) (ot:Tree Str),vs=[v,.ref pl,o]∧TrV K H v t∧SqT K H pl (PI' p)∧TrV K H o ot∧p.length≤1∧(atT t p=none→Q .non H) ∧
 ((∃ u,atT t p=some u)→∀ v' H',Same H H'→TrV K H' v' (putB t p ot)→Q v' H')
theorem Z2 {K:PySem.W.Frag} {H:Hp} {v:V} {t:Tree Str} (h:TrV K H v t):∃ a b vs name mark,v=.ref a∧t=.node name mark t.bs∧SqT K H a [.str name,.int mark,.ref b]∧SqT K H b vs∧TrAll K H vs t.bs∧vs.length≤1000:=by
 cases h with
 | mk h1 h2 h3 h4=>exact ⟨_,_,_,_,_,rfl,rfl,h1,h2,h3,h4⟩
theorem XC {K:PySem.W.Frag} {H:Hp} {v:V} {t:Tree Str} (h:TrV K H v t):v≠.non:=by
 cases h with
 | mk _ _ _ _=>intro z;cases z
section
variable {P:Program} {w:World} {K:PySem.W.Frag} {mg:Str→Option Value} {base:Heap} {f:Addr} {fd:FuncData}
theorem N1:FnScope ["branches", "number"] ["branches", "number"] (defScope GZ):=(1:)
theorem NX (F:Fun K "has_number" "has_number" GZ f fd) (G:Gm mg) (kb:PySem.W.kitOne K (.type "int") (.type "bool")=some false):FnOk P w K mg base CX0 1 f fd ["branches", "number"] (G1 K):=by
 refine F.ok N1 (8:) (4:)
 ·obtain ⟨b,bs,i,rfl,_⟩:=h
  rfl
 obtain ⟨b,bs,i,rfl,h2,q⟩:=h
 refine ⟨_,Qe (QF (Q0 (Qr Zu rfl G.isi PyProof.Rows.boot_isinstance (Qa (pv 1) (Qa (Zw (v:=.ty "bool") rfl G.boo PyProof.Rows.boot_bool rfl) Qd)))) (Qh (Qo Zq)) Qu)
  (Qh (Qo (Gy OD Jn Qb (pv 1) (Qr Qn rfl G.len PySem.boot_len (Qa (pv 0) Qd))))),?_⟩
 refine ⟨_,rfl,_, "bool", _,false,rfl,.int _,kb,_,rfl,Q3 ?_⟩
 refine ⟨_,rfl,_,_,rfl,rfl,_,rfl,?_⟩
 refine Yl (fun c=>?_) (fun c=>?_)
 ·have c':(0:Int)≤i:=of_decide_eq_true c
  refine ⟨_,rfl,b,bs,rfl,.inr h2,_,_,rfl,rfl,?_⟩
  have e:decide (i < ((bs.length:Nat):Int))=decide (0≤i∧i < (bs.length:Int)):=by simp [c']
  show Q (.bl (decide (i < ((bs.length:Nat):Int)))) H
  rw [e];exact q
 ·have c':¬ (0:Int)≤i:=of_decide_eq_false (Bool.eq_false_iff.mpr c)
  have e:false=decide (0≤i∧i < (bs.length:Int)):=by simp [c']
  rw [e];exact q
theorem Mt:FnScope ["tree", "place", "here", "number"] ["tree", "place"] (defScope sAt):=(1:)
theorem Os (F:Fun K "at" "at" sAt f fd) (R:Fn P w K mg base 1 "has_number" ["branches", "number"] (G1 K)):FnOk P w K mg base CX0 2 f fd ["tree", "place"] (Nr K):=by
 refine F.ok Mt (8:) (4:)
 ·obtain ⟨v,t,pl,p,rfl,_⟩:=h
  rfl
 obtain ⟨v,t,pl,p,rfl,ht,hp,qs,qn⟩:=h
 refine ⟨_,Qe (Ql (i:=2) Mt.nd rfl (7:) (pv 0))
  (Qe (QL PassesOwn.never rfl (WD (pv 1)) (Qq (i:=3) Mt.nd rfl (7:))
   (Qe (QF (Zf (Q0 (Qs R hr (Qa (31:) (Qa (pv 3) Qd))))) (Qh (Qo Q5)) Qu)
   (Qh (Ql (i:=2) Mt.nd rfl (7:) (Qi Qg (31:) (pv 3) (3:))))))
  (Qh (Qo (pv 2)))),?_⟩
 refine ⟨_,rfl,_,rfl,pl,rfl,⟨_,hp⟩,?_⟩
 refine W4 (xs:=PI' p) (fun i σ H'=>∃ (v':V) (u:Tree Str) (nv:Option V),σ=[some v,some (.ref pl),some v',nv]∧H'=H∧TrV K H v' u∧atT t (p.take i)=some u)
  ⟨v,t,none,rfl,rfl,ht,by rw [List.take_zero,Ul]⟩ ?_ ?_ ?_
 ·rintro i σ H' _ ⟨v',u,nv,_,rfl,_,_⟩
  exact hp
 ·rintro i x σ H' hx ⟨v',u,nv,rfl,rfl,hv,hu⟩
  obtain ⟨n,hn,rfl⟩ : ∃ n:Int,p[i]?=some n∧x=.int n:=by
   rw [List.getElem?_map] at hx
   cases e:p[i]? with
   | none=>rw [e] at hx;cases hx
   | some n=>rw [e] at hx;exact ⟨n,rfl,(Option.some.inj hx).symm⟩
  have hil:i < p.length:=(List.getElem?_eq_some_iff.mp hn).1
  have hsplit:p=p.take i ++ n :: p.drop (i + 1):=by
   have e1:p.drop i=n :: p.drop (i + 1):=by rw [List.drop_eq_getElem_cons hil,(List.getElem?_eq_some_iff.mp hn).2]
   rw [← e1,List.take_append_drop]
  have hat:atT t p=atT u (n :: p.drop (i + 1)):=by
   conv=>lhs;rw [hsplit,Yx,hu]
   rfl
  have htk:p.take (i + 1)=p.take i ++ [n]:=by rw [List.take_add_one,hn];rfl
  obtain ⟨a,b,bs,name,mark,rfl,et,h1,h2,h3,hbl⟩:=Z2 hv
  have hlen:=h3.length
  refine ⟨_,rfl,a,_,2,_,rfl,rfl,h1,rfl,_,rfl,b,bs,n,rfl,h2,_,rfl,?_⟩
  rw [hlen]
  by_cases hb:0≤n∧n < (u.bs.length:Int)
  ·rw [decide_eq_true hb]
   refine Q3 ?_
   obtain ⟨c,hc⟩ : ∃ c,u.bs[n.toNat]?=some c:=⟨_,List.getElem?_eq_getElem (11:)⟩
   obtain ⟨cv,hcv,hct⟩:=h3.get hc
   have hcast:n=((n.toNat:Nat):Int):=by lia
   refine ⟨_,rfl,a,_,2,_,rfl,rfl,h1,rfl,_,rfl,b,bs,n,cv,rfl,rfl,h2,by rw [hcast];exact Qy hcv,?_⟩
   refine ⟨cv,c,_,rfl,rfl,hct,?_⟩
   rw [htk,Yx,hu]
   show atT u [n]=some c
   rw [ZD,if_pos hb.1,hc];exact Ul _
  ·rw [decide_eq_false hb]
   refine Q8 ?_
   refine qn ?_
   rw [hat,ZD]
   by_cases h0:0≤n
   ·rw [if_pos h0,List.getElem?_eq_none (11:)]
   ·rw [if_neg h0]
 ·rintro σ H' ⟨v',u,nv,rfl,rfl,hv,hu⟩
  have hu':atT t p=some u:=by
   have:p.take (PI' p).length=p:=by rw [List.length_map,List.take_length]
   rw [this] at hu;exact hu
  exact ⟨_,rfl,qs v' u hu' hv⟩
theorem M4 {xs:List V} {k:Nat} (h:k≤xs.length):cutV xs none (some (k:Int))=xs.take k:=by
 unfold cutV
 rw [HT.sIx_none,HT.sIx_nat,List.drop_zero,Nat.sub_zero,Nat.min_eq_left h]
theorem Xk {xs:List V} {k:Nat} (h:k≤xs.length):cutV xs (some (k:Int)) none=xs.drop k:=by
 unfold cutV
 rw [HT.sIx_none,HT.sIx_nat,Nat.min_eq_left h]
 exact List.take_of_length_le (by rw [List.length_drop];lia)
theorem JN:FnScope ["tree", "place", "other", "number", "branches", "changed"] ["tree", "place", "other"] (defScope XQ):=(1:)
theorem LN {n:Nat} (F:Fun K "put_below" "put_below" XQ f fd) (G:Gm mg) (R:Fn P w K mg base n "put_below" ["tree", "place", "other"] (Yp K n)):FnOk P w K mg base CX0 (n + 1) f fd ["tree", "place", "other"] (Yp K (n + 1)):=by
 refine F.ok JN (8:) (4:)
 ·obtain ⟨v,t,pl,p,o,ot,rfl,_⟩:=h
  rfl
 obtain ⟨v,t,pl,p,o,ot,rfl,ht,hp,ho,hn,hat,q⟩:=h
 refine ⟨_,Qe (QF (Qp Q1 (Qr Qn rfl G.len PySem.boot_len (Qa (pv 1) Qd)) Qb (Qt _)) (Qh (Qo (pv 2))) Qu)
  (Qe (Ql (i:=3) JN.nd rfl (7:) (25:))
  (Qe (Ql (i:=4) JN.nd rfl (7:) (45:))
  (Qe (Ql (i:=5) JN.nd rfl (7:) (Qs R hr (Qa (Qi Qg (pv 4) (pv 3) (3:)) (Qa (Zp JI (pv 1) (ZZ Qb) ZT) (Qa (pv 2) Qd))) (9:)))
  (Qh (Qo (Qv (Qa (45:) (Qa (45:)
   (Qa (Qm Yi (Qm Yi (Zp JI (pv 4) ZT (ZZ (pv 3))) (Qv (Qa (pv 5) Qd))) (Zp JI (pv 4) (ZZ (Qm QK (pv 3) Qb)) ZT)) Qd))))))))),?_⟩
 refine ⟨_,rfl,pl,_,rfl,.inr hp,rfl,_,rfl,?_⟩
 cases p with
 | nil =>
  refine Yr (27:) ?_
  exact ⟨_,rfl,q o H (Same.refl H) (by rw [Xy];exact ho)⟩
 | cons i r =>
  refine ZP (by simp;lia) ?_
  obtain ⟨u,hu⟩:=hat
  rw [ZD] at hu
  have h0:0≤i:=by
   by_cases z:0≤i
   ·exact z
   ·rw [if_neg z] at hu;cases hu
  rw [if_pos h0] at hu
  obtain ⟨a,b,bs,name,mark,rfl,et,h1,h2,h3,hbl⟩:=Z2 ht
  have hlen:=h3.length
  cases hc:t.bs[i.toNat]? with
  | none=>rw [hc] at hu;cases hu
  | some c =>
   rw [hc] at hu
   have hil:i.toNat < t.bs.length:=(List.getElem?_eq_some_iff.mp hc).1
   obtain ⟨cv,hcv,hct⟩:=h3.get hc
   obtain ⟨k,rfl⟩:=Int.eq_ofNat_of_zero_le h0
   rw [Int.toNat_natCast] at hc hil hcv
   have hkb:k < bs.length:=by lia
   refine ⟨_,rfl,pl,_,0,.int (k:Int),rfl,rfl,hp,Qy (j:=0) rfl,?_⟩
   refine ⟨_,rfl,a,_,2,_,rfl,rfl,h1,rfl,?_⟩
   refine ⟨_,rfl,_,rfl,b,bs,k,cv,rfl,rfl,h2,Qy hcv,_,rfl,_,rfl,pl,_,rfl,hp,?_,fun p1 hp1=>?_⟩
   ·rw [HT.sIx_none,show (some (1:Int))=some ((1:Nat):Int) from rfl,HT.sIx_nat]
    simp
   have g1:Same H (upd H p1 (.tup (cutV (PI' ((k:Int) :: r)) (some 1) none))):=Qf hp1 _
   have ecut:cutV (PI' ((k:Int) :: r)) (some 1) none=PI' r:=by
    have:=Xk (xs:=PI' ((k:Int) :: r)) (k:=1) (27:)
    exact this
   refine ⟨_,rfl,cv,c,p1,r,o,ot,rfl,hct.mono (fun _ _=>g1.seqT),by rw [ecut];exact SqT.of Qc,ho.mono (fun _ _=>g1.seqT),by simp at hn;lia,⟨u,hu⟩,fun v' H' g2 hv'=>?_⟩
   have g12:=g1.trans g2
   refine ⟨_,rfl,a,_,0,_,rfl,rfl,g12.seqT h1,rfl,_,rfl,a,_,1,_,rfl,rfl,g12.seqT h1,rfl,?_⟩
   refine ⟨_,rfl,_,rfl,_,rfl,b,bs,rfl,g12.seqT h2,?_,fun p2 hp2=>?_⟩
   ·rw [HT.sIx_none,HT.sIx_nat];lia
   have g3:Same H' (upd H' p2 (.tup (cutV bs none (some (k:Int))))):=Qf hp2 _
   rw [M4 (Nat.le_of_lt hkb)] at g3 ⊢
   refine ⟨_,rfl,(35:),fun p3 hp3=>?_⟩
   have g4:Same (upd H' p2 (.tup (bs.take k))) (upd (upd H' p2 (.tup (bs.take k))) p3 (.tup [v'])):=Qf hp3 _
   refine ⟨p2,p3,bs.take k,[v'],rfl,rfl,SqT.of (g4 _ _ Qc),SqT.of Qc,?_,fun p4 H4 g5 hp4=>?_⟩
   ·rw [List.length_take,List.length_singleton]
    exact Nat.le_of_lt (Jx (11:))
   have g15:=g12.trans (g3.trans (g4.trans g5))
   refine ⟨_,rfl,_,rfl,_,_,rfl,rfl,_,rfl,b,bs,rfl,g15.seqT h2,?_,fun p5 hp5=>?_⟩
   ·rw [HT.sIx_none,show ((k:Int)+1)=((k + 1:Nat):Int) from rfl,HT.sIx_nat];lia
   have ecut2:cutV bs (some ((k:Int)+1)) none=bs.drop (k + 1):=Xk (k:=k + 1) (11:)
   have g6:Same H4 (upd H4 p5 (.tup (cutV bs (some ((k:Int)+1)) none))):=Qf hp5 _
   rw [ecut2] at g6 ⊢
   refine ⟨p4,p5,_,_,rfl,rfl,g6.seqT hp4,SqT.of Qc,?_,fun p6 H6 g7 hp6=>?_⟩
   ·rw [List.length_append,List.length_take,List.length_singleton,List.length_drop]
    exact Nat.le_of_lt (Jx (11:))
   refine ⟨(20:),fun p7 hp7=>?_⟩
   have g8:=Qf hp7 (.tup [.str name,.int mark,.ref p6])
   have gall:=g15.trans (g6.trans (g7.trans g8))
   have gv:Same H' (upd H6 p7 (.tup [.str name,.int mark,.ref p6])):=g3.trans (g4.trans (g5.trans (g6.trans (g7.trans g8))))
   refine q (.ref p7) _ gall ?_
   rw [et,Jl _ _ _ _ _ _ c (by rw [Int.toNat_natCast];exact hc),Int.toNat_natCast]
   refine .mk (SqT.of Qc) (g8.seqT hp6) ?_ (by simp only [List.length_append,List.length_take,List.length_singleton,List.length_drop];lia)
   rw [List.set_eq_take_append_cons_drop,if_pos hil]
   have t1:TrAll K (upd H6 p7 (.tup [.str name,.int mark,.ref p6])) (bs.take k) (t.bs.take k):=(h3.take k).mono (fun _ _=>gall.seqT)
   have t2:TrAll K (upd H6 p7 (.tup [.str name,.int mark,.ref p6])) (bs.drop (k + 1)) (t.bs.drop (k + 1)):=(h3.drop (k + 1)).mono (fun _ _=>gall.seqT)
   have t3:=(t1.append (.cons (hv'.mono (fun _ _=>gv.seqT)) .nil)).append t2
   simpa using t3
theorem VT:FnOk P w K mg base CX0 0 f fd ["tree", "place", "other"] (Yp K 0):=by
 have no:∀ vs H Q E,¬ Yp K 0 vs H Q E:=fun vs H Q E h=>by
  obtain ⟨v,t,pl,p,o,ot,_,_,_,_,hn,_⟩:=h
  lia
 exact (29:)
theorem XH (F:Fun K "put_below" "put_below" XQ f fd) (G:Gm mg) (hb:Binds K fd ["tree", "place", "other"] []) (hm:mg "put_below" = some (.ref f)):∀ n:Nat,FnOk P w K mg base CX0 n f fd ["tree", "place", "other"] (Yp K n)
 | 0=>VT
 | n + 1=>LN F G ⟨f,fd,XH F G hb hm n,hb,F.kp,hm⟩
theorem Mi:FnScope ["tree", "place", "other"] ["tree", "place", "other"] (defScope WE):=(1:)
theorem GK (F:Fun K "put_at" "put_at" WE f fd) (RA:Fn P w K mg base 2 "at" ["tree", "place"] (Nr K)) (RP:Fn P w K mg base 2 "put_below" ["tree", "place", "other"] (Yp K 2)):FnOk P w K mg base CX0 3 f fd ["tree", "place", "other"] (Xc K):=by
 refine F.ok Mi (8:) (4:)
 ·obtain ⟨v,t,pl,p,o,ot,rfl,_⟩:=h
  rfl
 obtain ⟨v,t,pl,p,o,ot,rfl,ht,hp,ho,hl,qn,qs⟩:=h
 refine ⟨_,Qe (QF (YW (UJ (Qs RA hr (Qa (pv 0) (Qa (pv 1) Qd))))) (Qh (Qo Q5)) Qu)
  (Qh (Qo (Qs RP hr (Qa (pv 0) (Qa (pv 1) (Qa (pv 2) Qd)))))),?_⟩
 refine ⟨_,rfl,_,rfl,v,t,pl,p,rfl,ht,hp,fun v' u hu hv=>?_,fun hnone=>?_⟩
 ·refine ⟨_,rfl,ZP (XC hv) ?_⟩
  exact ⟨_,rfl,_,rfl,_,rfl,v,t,pl,p,o,ot,rfl,ht,hp,ho,by lia,⟨u,hu⟩,qs ⟨u,hu⟩⟩
 ·exact ⟨_,rfl,Yr rfl (qn hnone)⟩
theorem X7:FnScope ["wood", "kind", "name", "branches"] ["wood", "kind"] (defScope Lg):=(1:)
theorem Ly (F:Fun K "leaf_of" "leaf_of" Lg f fd) (G:Gm mg) (RO:Fn P w K mg base 1 "rows_of" ["wood", "kind"] (Z8 K)):FnOk P w K mg base CX0 2 f fd ["wood", "kind"] (J2 K):=by
 refine F.ok X7 (8:) (4:)
 ·obtain ⟨w,kind,ks,rfl,_⟩:=h
  rfl
 obtain ⟨wd,kind,ks,rfl,hW,hO,hL,q⟩:=h
 obtain ⟨r0,hr0,er0⟩:=hL.find
 unfold QS at q
 rw [er0] at q
 refine ⟨_,(Qe (QL PassesOwn.never rfl (QO (Qs RO hr (Qa (pv 0) (Qa (pv 1) Qd)))) (Zb rfl (Qw (Qq (i:=2) X7.nd rfl (7:)) (Qw (Qq (i:=3) X7.nd rfl (7:)) QX))) (Qh (QF (Qp Q1 (Qr Qn rfl G.len PySem.boot_len (Qa (pv 3) Qd)) Qb (Qt _)) (Qh (Qo (Qv (Qa (pv 2) (Qa (Qb) (Qa (Qv Qd) Qd)))))) Qu)))
  (Qh (Qo Q5))),?_⟩
 obtain ⟨kd,hkf,erow⟩ : ∃ kd,ks.find? (fun k=>decide (k.2.1=kind))=some kd∧rowsK ks kind=kd.2.2.2:=by
  cases e:ks.find? fun k=>decide (k.2.1=kind) with
  | none=>unfold rowsK at hr0;rw [e] at hr0;cases hr0
  | some kd=>exact ⟨kd,rfl,by unfold rowsK;rw [e];rfl⟩
 refine ⟨_,rfl,_,rfl,wd,kind,ks,kd,rfl,hW,hO,hkf,fun H1 g1=>?_⟩
 have hR:RowsL K H1 kd.2.2.1 (rowsK ks kind):=by rw [erow];exact ((hW.same g1).2 kd (List.mem_of_find?_eq_some hkf)).2
 clear hL er0 erow
 generalize rowsK ks kind=rs at hr0 hR
 refine ⟨kd.2.2.1,rfl,⟨_,hR.1⟩,?_⟩
 refine Yf (K:=K) (xs:=rs.map fun t=>V.ref t.1) (fun i σ H'=>∃ c1 c2:Option V,σ=[some (.ref wd),some (.str kind),c1,c2]∧H'=H1∧(rs.drop i).find? (fun r=>r.2.2.2.isEmpty)=some r0) ⟨none,none,rfl,rfl,hr0⟩ ?_ ?_ ?_
 ·rintro i σ H' _ ⟨c1,c2,_,rfl,_⟩
  exact hR.1
 ·rintro i x σ H' hx ⟨c1,c2,rfl,rfl,hf⟩
  have hi:i < rs.length:=by
   have:=(List.getElem?_eq_some_iff.mp hx).1
   rwa [List.length_map] at this
  obtain rfl:x=.ref rs[i].1:=by
   rw [List.getElem?_map,List.getElem?_eq_getElem hi] at hx
   exact (Option.some.inj hx).symm
  obtain ⟨hr1,hr2⟩:=hR.2 _ (List.getElem_mem hi)
  rw [List.drop_eq_getElem_cons hi,List.find?_cons] at hf
  refine ⟨rs[i].1,_,rfl,hr1,rfl,_,_,rfl,_,_,rfl,rfl,?_⟩
  refine ⟨_,rfl,rs[i].2.2.1,_,rfl,.inr hr2,rfl,_,rfl,?_⟩
  cases hes:rs[i].2.2.2 with
  | nil =>
   rw [hes] at hf
   have e0:rs[i]=r0:=by simpa using hf
   refine Yr (by rfl) ⟨_,rfl,(16:),fun p0 hp0=>⟨(20:),fun p1 hp1=>?_⟩⟩
   have k0:=Qf hp0 (.tup [])
   have k1:=Qf hp1 (.tup [.str rs[i].2.1,.int 0,.ref p0])
   refine q (.ref p1) _ (g1.trans (k0.trans k1)) ?_
   rw [← e0]
   exact .mk (SqT.of Qc) (k1.seqT (SqT.of Qc)) .nil (Nat.zero_le _)
  | cons y ys =>
   rw [hes] at hf
   refine ZP (fun z=>?_) ⟨_,_,rfl,rfl,by simpa using hf⟩
   injection z with z
   simp at z
   lia
 ·rintro σ H' ⟨c1,c2,rfl,rfl,hf⟩
  rw [List.length_map,List.drop_of_length_le (9:)] at hf
  cases hf
theorem Mb:FnScope ["wood", "name", "mark", "kinds"] ["wood", "name", "mark", "kinds"] (defScope X6):=(1:)
theorem GJ (F:Fun K "leafy" "leafy" X6 f fd) (G:Gm mg) (RL:Fn P w K mg base 2 "leaf_of" ["wood", "kind"] (J2 K)):FnOk P w K mg base CX0 3 f fd ["wood", "name", "mark", "kinds"] (J1 K):=by
 refine F.ok Mb (8:) (4:)
 ·obtain ⟨w,kb,name,mark,ks,ss,rfl,_⟩:=h
  rfl
 obtain ⟨wd,kb,name,mark,ks,ss,rfl,hW,hO,hkb,hsl,hL,q⟩:=h
 refine ⟨_,(Qh (Qo (Qv (Qa (pv 1) (Qa (pv 2) (Qa (QE Zz rfl G.tup PyProof.Rows.boot_tuple (Qa (Q6 (CompG.many (xs:=["kind"]) (caps:=["wood"]) (cap:=[0]) (cs:=[_]) rfl rfl (0:) (0:) (0:) (0:) (0:) (0:) rfl rfl rfl) rfl (WD (pv 3)) (Z4 (CompG.many (xs:=["kind"]) (caps:=["wood"]) (cap:=[0]) (cs:=[_]) rfl rfl (0:) (0:) (0:) (0:) (0:) (0:) rfl rfl rfl)) (fun _ _ _ _=>ZB) (fun _ _ _ _=>Qs RL hr (Qa (pv 1) (Qa (pv 0) Qd)))) Qd)) Qd)))))),?_⟩
 refine ⟨_,rfl,_,rfl,_,rfl,kb,rfl,⟨_,hkb⟩,fun acc hacc=>?_⟩
 refine M7 (K:=K) (xs:=ss.map V.str) (cs:=[some (.ref wd)]) (tt:=fun _ H Q=>Q true H) (te:=GT (J2 K) [] E0 (Zd (ZI 1) (Zd (ZI 0) Yu))) (fun i ys H'=>H' acc=some (.lst ys)∧Same H H'∧TrAll K H' ys ((ss.take i).map (QS ks)))
  ⟨Qc,Qf hacc _,.nil⟩ ?_ ?_ ?_
 ·rintro i ys H' _ ⟨_,g,_⟩
  exact g.seqT hkb
 ·rintro i y ys H' hi hy ⟨hya,g,hys⟩
  have his:i < ss.length:=by rw [List.length_map] at hi;exact hi
  obtain rfl:y=.str ss[i]:=by
   rw [List.getElem?_map,List.getElem?_eq_getElem his] at hy
   exact (Option.some.inj hy).symm
  have hyl:=hys.length
  rw [List.length_map,List.length_take] at hyl
  refine Q8 ⟨_,rfl,_,rfl,wd,ss[i],ks,rfl,hW.same g,hO,hL _ (List.getElem_mem his),fun v H4 g4 hv=>?_⟩
  have hya4:=g4 _ _ hya
  refine QI (ys:=ys) hi hya4 (11:) ⟨Qc,fun b u e=>?_,?_⟩
  ·rw [Qj (Qk e hacc)];exact g4 _ _ (g _ _ e)
  ·rw [List.take_add_one,List.getElem?_eq_getElem his,List.map_append]
   exact TrAll.append (hys.mono fun _ _ h=>(g4.seqT h).put hya4) (.cons (hv.mono fun _ _ h=>h.put hya4) .nil)
 rintro ys H2 ⟨hya,g2,hys⟩
 rw [List.length_map,List.take_length] at hys
 have hyl:=hys.length
 rw [List.length_map] at hyl
 refine ⟨acc,_,rfl,.inl ⟨SqL.of hya,fun pb hpb=>⟨(20:),fun p hp=>?_⟩⟩⟩
 have k1:=Qf hpb (.tup ys)
 have k2:=Qf hp (.tup [.str name,.int mark,.ref pb])
 exact q (.ref p) _ (g2.trans (k1.trans k2)) (.mk (SqT.of Qc) (k2.seqT (SqT.of Qc)) (hys.mono fun _ _=>(k1.trans k2).seqT) (11:))
theorem ZG:FnScope ["wood", "way", "row", "mark", "tree", "above", "its_mark", "branch"] ["wood", "way", "row", "mark"] (defScope JE):=(1:)
theorem VG (F:Fun K "tree_on" "tree_on" JE f fd) (G:Gm mg) (RL:Fn P w K mg base 3 "leafy" ["wood", "name", "mark", "kinds"] (J1 K)) (RP:Fn P w K mg base 3 "put_at" ["tree", "place", "other"] (Xc K)):FnOk P w K mg base CX0 4 f fd ["wood", "way", "row", "mark"] (YH K):=by
 refine F.ok ZG (8:) (4:)
 ·obtain ⟨wd,lw,ra,ks,w,r,u,rfl,_⟩:=h
  rfl
 obtain ⟨wd,lw,ra,ks,w,r,u,rfl,hW,hO,hlw,hwy,hra,hrk,hqk,hu,q⟩:=h
 refine ⟨_,(Qe (Ql (i:=4) ZG.nd rfl (7:) (Qs RL hr (Qa (pv 0) (Qa (31:) (Qa (pv 3) (Qa (31:) Qd))))))
  (Qe (QL PassesOwn.never rfl (ML rfl G.rev (Qa (pv 1) Qd)) (Zb rfl (Qw (Qq (i:=5) ZG.nd rfl (7:)) (Qw (Qq (i:=6) ZG.nd rfl (7:)) (Qw (Qq (i:=7) ZG.nd rfl (7:)) QX))))
   (Qh (Ql (i:=4) ZG.nd rfl (7:) (Qs RP hr (Qa (Qs RL hr (Qa (pv 0) (Qa (Qi Qg (pv 5) Qb (3:)) (Qa (pv 6) (Qa (Qi Qg (pv 5) Qb (3:)) Qd))))) (Qa ((Qv (Qa (pv 7) Qd))) (Qa (pv 4) Qd)))))))
  (Qh (Qo (Qi Qg (Qi Qg (pv 4) Qb (3:)) Qb (3:)))))),?_⟩
 obtain ⟨kk,h1,h2⟩:=hra
 refine ⟨_,rfl,_,rfl,ra,_,0,_,rfl,rfl,h1,rfl,_,rfl,_,rfl,ra,_,1,_,rfl,rfl,h1,rfl,wd,kk,r.1,0,ks,r.2,rfl,hW,hO,h2,hrk.1,hrk.2,fun v H1 g1 hv=>?_⟩
 refine ⟨_,rfl,lw,_,rfl,SqL.of (g1 _ _ hlw),?_⟩
 refine LZ (K:=K) (xs:=w.map fun q=>V.ref q.1) (fun i σ H'=>∃ (c5 c6 c7:Option V) (v:V),σ=[some (.ref wd),some (.ref lw),some (.ref ra),some (.int 0),some v,c5,c6,c7]∧Same H H'∧TrV K H' v (wayT ks ((w.drop (w.length - i)).map (·.2)) r)) ⟨none,none,none,v,rfl,g1,?_⟩ ?_ ?_ ?_
 ·rw [Nat.sub_zero,List.drop_of_length_le (9:)];exact hv
 ·rintro i σ H' _ ⟨_,_,_,_,_,g,_⟩
  exact SqL.of (g _ _ hlw)
 ·rintro i x σ H' hi hx ⟨c5,c6,c7,v,rfl,g,hv⟩
  rw [List.length_map] at hi hx
  have hj:w.length - 1 - i < w.length:=by lia
  obtain ⟨j,ej⟩ : ∃ j,j=w.length - 1 - i:=⟨_,rfl⟩
  rw [← ej] at hx hj
  obtain rfl:x=.ref w[j].1:=by
   rw [List.getElem?_map,List.getElem?_eq_getElem hj] at hx
   exact (Option.some.inj hx).symm
  have hm:=List.getElem_mem hj
  obtain ⟨ra',w1,kk',w2,w3⟩:=hwy _ hm
  obtain ⟨⟨o1,o2⟩,b,eb,hb⟩:=hqk _ hm
  rw [eb] at w1
  have ed:w.drop (w.length - (i + 1))=w[j] :: w.drop (w.length - i):=by
   rw [show w.length - (i + 1)=j by lia,List.drop_eq_getElem_cons hj,show j + 1=w.length - i by lia]
  refine ⟨_,_,rfl,g.seqT w1,rfl,_,_,rfl,_,_,rfl,_,_,rfl,rfl,?_⟩
  refine ⟨_,rfl,_,rfl,ra',_,0,_,rfl,rfl,g.seqT w2,rfl,_,rfl,_,rfl,ra',_,1,_,rfl,rfl,g.seqT w2,rfl,wd,kk',_,0,ks,_,rfl,hW.same g,hO,g.seqT w3,o1,o2,fun v2 H2 g2 hv2=>?_⟩
  refine ⟨_,rfl,(35:),fun p1 hp1=>?_⟩
  have g3:=Qf hp1 (.tup [.int (b:Int)])
  have hat:(Zk ks w[j].2.1).bs[b]?=some (QS ks w[j].2.1.2[b]):=by
   show (w[j].2.1.2.map (QS ks))[b]?=_
   rw [List.getElem?_map,List.getElem?_eq_getElem hb];rfl
  have hat':∃ u,atT (Zk ks w[j].2.1) [(b:Int)]=some u:=⟨QS ks w[j].2.1.2[b],by
   rw [ZD,if_pos (11:),Int.toNat_natCast,hat];exact Ul _⟩
  refine ⟨_,rfl,v2,Zk ks w[j].2.1,p1,[(b:Int)],v,_,rfl,hv2.mono fun _ _=>g3.seqT,SqT.of Qc,hv.mono fun _ _=>(g2.trans g3).seqT,(by show 1≤1;decide),fun z=>?_,fun _ v3 H3 g4 hv3=>?_⟩
  ·obtain ⟨u',hu'⟩:=hat'
   rw [hu'] at z;cases z
  ·refine ⟨_,_,_,v3,rfl,g.trans (g2.trans (g3.trans g4)),?_⟩
   rw [ed,List.map_cons]
   show TrV K H3 v3 (putB (Zk ks w[j].2.1) [w[j].2.2] _)
   rw [eb]
   exact hv3
 ·rintro σ H' ⟨c5,c6,c7,v,rfl,g,hv⟩
  rw [List.length_map,Nat.sub_self,List.drop_zero] at hv
  obtain ⟨a,b,vs,name,mk,rfl,et,t1,t2,t3,t4⟩:=Z2 hv
  obtain ⟨c,hc,hct⟩:=t3.get hu
  exact ⟨_,rfl,a,_,2,_,rfl,rfl,t1,rfl,b,_,0,_,rfl,rfl,t2,Qy (j:=0) hc,q c _ g hct⟩
end
end K61
namespace K61
open PySem L2 TM TT K9 K11
abbrev SI:=Spot × It
def actL (s:Stt) (L:List SI):Stt:=L.foldl (fun s q=>act q.1 s q.2) s
theorem Lv (sp:Spot) (l:List It):∀ s,XA sp s l=actL s (l.map fun i=>(sp,i)):=by
 induction l with
 | nil=>intro s;rfl
 | cons i l ih=>intro s;exact ih (act sp s i)
theorem VY (s:Stt) (L M:List SI):actL s (L ++ M)=actL (actL s L) M:=List.foldl_append ..
def Fl (o:Option (Spot × List Int)) (L:Nat):Prop:=∃ f,o=some f∧f.1.lv≤L
abbrev cI (q:Dd × Stp):SI:=(q.2.sp,(q.2.pl,some (q.1.1,q.2.br,q.1.2)))
structure Ac (L:List SI) (s s':Stt):Prop where
 pre:∃ r,s'.ss=s.ss ++ r∧∀ q ∈ r,cI q ∈ L
 nd:s.ds.Nodup→s'.ds.Nodup
 call:∀ i ∈ L,∀ c,i.2.2=some c→(c.1,c.2.2) ∈ s'.ds
 ft1:∀ k,Fl s.ft k→Fl s'.ft k
 ft2:∀ i ∈ L,i.2.2=none→Fl s'.ft i.1.lv
 ft3:∀ f,s'.ft=some f→s.ft=some f∨(f.1,(f.2,none)) ∈ L
theorem WX {s s':Stt} {r:List (Dd × Stp)} (e:s'.ss=s.ss ++ r) {d:Dd} (h:d ∈ s.ds):d ∈ s'.ds:=by
 unfold Stt.ds at *
 rw [e,List.map_append]
 exact List.mem_append_left _ h
theorem Na (sp:Spot) (i:It) (s:Stt):Ac [(sp,i)] s (act sp s i):=by
 obtain ⟨p,o⟩:=i
 cases o with
 | none =>
  have e:(act sp s (p,none)).ss=s.ss:=by
   show (Z6 sp p s).ss=_
   unfold Z6
   split
   ·rfl
   ·split <;> rfl
  have hds:(act sp s (p,none)).ds=s.ds:=by unfold Stt.ds;rw [e]
  refine ⟨⟨[],by rw [e,List.append_nil],fun q hq=>nomatch hq⟩,fun h=>by rw [hds];exact h,fun i hi c hc=>?_,fun k hk=>?_,fun i hi _=>?_,fun f hf=>?_⟩
  ·obtain rfl:i=(sp,(p,none)):=by simpa using hi
   cases hc
  ·obtain ⟨f,h1,h2⟩:=hk
   show Fl (Z6 sp p s).ft k
   unfold Z6
   rw [h1]
   dsimp only
   by_cases c:sp.lv < f.1.lv
   ·rw [if_pos c];exact ⟨_,rfl,by dsimp only;lia⟩
   ·rw [if_neg c];exact ⟨f,h1,h2⟩
  ·obtain rfl:i=(sp,(p,none)):=by simpa using hi
   show Fl (Z6 sp p s).ft sp.lv
   unfold Z6
   cases h1:s.ft with
   | none=>exact ⟨_,rfl,Nat.le_refl _⟩
   | some f =>
    dsimp only
    by_cases c:sp.lv < f.1.lv
    ·rw [if_pos c];exact ⟨_,rfl,Nat.le_refl _⟩
    ·rw [if_neg c];exact ⟨f,h1,by lia⟩
  ·have hf:(Z6 sp p s).ft=some f:=hf
   unfold Z6 at hf
   cases h1:s.ft with
   | none =>
    rw [h1] at hf
    obtain rfl:=Option.some.inj hf
    exact .inr List.mem_cons_self
   | some g =>
    rw [h1] at hf
    dsimp only at hf
    by_cases c:sp.lv < g.1.lv
    ·rw [if_pos c] at hf
     obtain rfl:=Option.some.inj hf
     exact .inr List.mem_cons_self
    ·rw [if_neg c] at hf
     exact .inl (h1.symm.trans hf)
 | some c =>
  obtain ⟨m,b,k⟩:=c
  have ef:(act sp s (p,some (m,b,k))).ft=s.ft:=by
   show (UT (m,k) ⟨sp,p,b⟩ s).ft=_
   unfold UT
   split <;> rfl
  have hss:(act sp s (p,some (m,b,k))).ss=s.ss ++ (if (m,k) ∈ s.ds then [] else [((m,k),⟨sp,p,b⟩)]):=by
   show (UT (m,k) ⟨sp,p,b⟩ s).ss=_
   unfold UT
   split
   ·rw [List.append_nil]
   ·rfl
  have hds:(act sp s (p,some (m,b,k))).ds=s.ds ++ (if (m,k) ∈ s.ds then [] else [(m,k)]):=by
   unfold Stt.ds at hss ⊢
   rw [hss,List.map_append]
   split <;> rfl
  refine ⟨⟨_,hss,fun q hq=>?_⟩,fun h=>?_,fun i hi c hc=>?_,fun k hk=>by rw [ef];exact hk,fun i hi h=>?_,fun f hf=>.inl (by rw [← ef];exact hf)⟩
  ·split at hq
   ·cases hq
   ·obtain rfl:q=((m,k),⟨sp,p,b⟩):=by simpa using hq
    exact List.mem_cons_self
  ·rw [hds]
   split
   ·rw [List.append_nil];exact h
   ·rename_i hni
    exact List.nodup_append.mpr ⟨h,by simp,fun a ha b hb=>by
     have:b=(m,k):=by simpa using hb
     subst this
     exact fun z=>hni (by rw [← z];exact ha)⟩
  ·obtain rfl:i=(sp,(p,some (m,b,k))):=by simpa using hi
   obtain rfl:=Option.some.inj hc
   show (m,k) ∈ _
   rw [hds]
   by_cases h:(m,k) ∈ s.ds
   ·exact List.mem_append_left _ h
   ·rw [if_neg h];exact List.mem_append_right _ List.mem_cons_self
  ·obtain rfl:i=(sp,(p,some (m,b,k))):=by simpa using hi
   cases h
theorem Ac.trans {L M:List SI} {s s1 s2:Stt} (a:Ac L s s1) (b:Ac M s1 s2):Ac (L ++ M) s s2:=by
 obtain ⟨r,e,hr⟩:=a.pre
 obtain ⟨r',e',hr'⟩:=b.pre
 refine ⟨⟨r ++ r',by rw [e',e,List.append_assoc],fun q hq=>?_⟩,fun h=>b.nd (a.nd h),fun i hi c hc=>?_,fun k hk=>b.ft1 k (a.ft1 k hk),fun i hi h=>?_,fun f hf=>?_⟩
 ·rcases List.mem_append.mp hq with z | z
  ·exact List.mem_append_left _ (hr q z)
  ·exact List.mem_append_right _ (hr' q z)
 ·rcases List.mem_append.mp hi with z | z
  ·exact WX e' (a.call i z c hc)
  ·exact b.call i z c hc
 ·rcases List.mem_append.mp hi with z | z
  ·exact b.ft1 _ (a.ft2 i z h)
  ·exact b.ft2 i z h
 ·rcases b.ft3 f hf with z | z
  ·exact (a.ft3 f z).imp id (List.mem_append_left _)
  ·exact .inr (List.mem_append_right _ z)
theorem X4:∀ (L:List SI) (s:Stt),Ac L s (actL s L)
 | [],s=>⟨⟨[],(List.append_nil _).symm,fun q hq=>(nomatch hq)⟩,id,fun i hi=>(nomatch hi),fun _=>id,fun i hi=>(nomatch hi),fun f hf=>.inl hf⟩
 | q :: L,s=>(Na q.1 q.2 s).trans (X4 L (act q.1 s q.2))
theorem ZQ {s:Stt} (nd:s.ds.Nodup) {q:Dd × Stp} (h:q ∈ s.ss):nOf s q.1=q.2.sp.n:=by
 unfold nOf
 cases e:s.ss.find? fun x=>decide (x.1=q.1) with
 | none =>
  have:=List.find?_eq_none.mp e q h
  simp at this
 | some x =>
  have h1:x.1=q.1:=by simpa using List.find?_some e
  have h2:=List.mem_of_find?_eq_some e
  obtain ⟨i,hi,ei⟩:=List.getElem_of_mem h2
  obtain ⟨j,hj,ej⟩:=List.getElem_of_mem h
  have:i=j:=by
   have g:(s.ss.map (·.1))[i]?=(s.ss.map (·.1))[j]?:=by
    rw [List.getElem?_map,List.getElem?_map,List.getElem?_eq_getElem hi,List.getElem?_eq_getElem hj,ei,ej]
    show some x.1=some q.1
    rw [h1]
   exact (List.getElem?_inj (by show i < (s.ss.map (·.1)).length;rw [List.length_map];exact hi) nd).mp g
  subst this
  rw [← ei,ej];rfl
theorem Y2 {s:Stt} {d:Dd} (h:d ∈ s.ds):∃ q ∈ s.ss,q.1=d:=List.mem_map.mp h
theorem LG {s s':Stt} {r:List (Dd × Stp)} (e:s'.ss=s.ss ++ r) {d:Dd} (h:d ∈ s.ds):nOf s' d=nOf s d:=by
 unfold nOf
 rw [e,List.find?_append]
 cases e2:s.ss.find? fun x=>decide (x.1=d) with
 | some x=>rfl
 | none =>
  obtain ⟨q,hq,eq⟩:=Y2 h
  have:=List.find?_eq_none.mp e2 q hq
  simp [eq] at this
section
variable (f:RK) (n:Nat) (rl:Dd→List (Rw × Tm)) (L0:List SI)
def LB (N:Nat) (d:Dd):List SI:=(rl d).flatMap fun r=>(its f n r.2 d.2 []).map fun i=>(⟨N,some d,r.1⟩,i)
theorem Vh (N:Nat) (d:Dd):∀ (l:List (Rw × Tm)) (s:Stt),W6 f n N d l s=actL s (l.flatMap fun r=>(its f n r.2 d.2 []).map fun i=>(⟨N,some d,r.1⟩,i))
 | [],s=>rfl
 | r :: l,s=>by
  rw [List.flatMap_cons,VY,← Lv]
  exact Vh N d l _
theorem Mf (d:Dd) (s:Stt):Xs f n rl d s=actL s (LB f n rl (nOf s d + 1) d):=Vh f n _ d _ s
theorem Pq {N:Nat} {d:Dd} {x:SI} (h:x ∈ LB f n rl N d):x.1.n=N∧x.1.dm=some d:=by
 obtain ⟨r,_,h⟩:=List.mem_flatMap.mp h
 obtain ⟨i,_,rfl⟩:=List.mem_map.mp h
 exact ⟨rfl,rfl⟩
structure Bf (j:Nat) (s:Stt):Prop where
 nd:s.ds.Nodup
 src:∀ q ∈ s.ss,cI q ∈ L0∨∃ d ∈ s.ds,cI q ∈ LB f n rl (nOf s d + 1) d
 st:∀ i ∈ L0,∀ c,i.2.2=some c→(c.1,c.2.2) ∈ s.ds∧nOf s (c.1,c.2.2)=0
 go:∀ (i:Nat) (d:Dd),i < j→s.ds[i]?=some d→∀ x ∈ LB f n rl (nOf s d + 1) d,∀ c,x.2.2=some c→(c.1,c.2.2) ∈ s.ds∧nOf s (c.1,c.2.2)≤nOf s d + 1
 f0:∀ i ∈ L0,i.2.2=none→Fl s.ft i.1.lv
 fg:∀ (i:Nat) (d:Dd),i < j→s.ds[i]?=some d→∀ x ∈ LB f n rl (nOf s d + 1) d,x.2.2=none→Fl s.ft x.1.lv
 fs:∀ g,s.ft=some g→(g.1,(g.2,none)) ∈ L0∨∃ d ∈ s.ds,(g.1,(g.2,none)) ∈ LB f n rl (nOf s d + 1) d
 pw:s.ss.Pairwise fun a b=>a.2.sp.n≤b.2.sp.n
 up:∀ d,s.ds[j]?=some d→∀ q ∈ s.ss,q.2.sp.n≤nOf s d + 1
variable {f n rl L0}
theorem Bf.start (h0:∀ i ∈ L0,i.1.n=0):Bf f n rl L0 0 (actL ⟨[],none⟩ L0):=by
 have A:=X4 L0 ⟨[],none⟩
 generalize actL ⟨[],none⟩ L0=s at A
 obtain ⟨r,e,hr⟩:=A.pre
 have hs:∀ q ∈ s.ss,cI q ∈ L0:=fun q hq=>by rw [e] at hq;exact hr q hq
 have hn0:∀ q ∈ s.ss,q.2.sp.n=0:=fun q hq=>h0 _ (hs q hq)
 have nd:=A.nd List.nodup_nil
 refine ⟨nd,fun q hq=>.inl (hs q hq),fun i hi c hc=>⟨A.call i hi c hc,?_⟩,fun i d hi=>absurd hi (Nat.not_lt_zero _),A.ft2,fun i d hi=>absurd hi (Nat.not_lt_zero _),fun g hg=>?_,?_,fun d _ q hq=>by rw [hn0 q hq];exact Nat.zero_le _⟩
 ·obtain ⟨q,hq,eq⟩:=Y2 (A.call i hi c hc)
  rw [← eq,ZQ nd hq,hn0 q hq]
 ·rcases A.ft3 g hg with z | z
  ·cases z
  ·exact .inl z
 ·rw [List.pairwise_iff_getElem]
  intro i j hi hj _
  rw [hn0 _ (List.getElem_mem hi)]
  exact Nat.zero_le _
theorem Bf.next {j:Nat} {s:Stt} {d:Dd} (B:Bf f n rl L0 j s) (hd:s.ds[j]?=some d):Bf f n rl L0 (j + 1) (Xs f n rl d s):=by
 rw [Mf]
 have hdm:=List.mem_of_getElem? hd
 have A:=X4 (LB f n rl (nOf s d + 1) d) s
 have up0:=B.up d hd
 generalize hN:nOf s d + 1=N at A up0 ⊢
 generalize actL s (LB f n rl N d)=s' at A
 obtain ⟨r,e,hr⟩:=A.pre
 have nd:=A.nd B.nd
 have keep:∀ {d':Dd},d' ∈ s.ds→d' ∈ s'.ds:=fun h=>WX e h
 have nk:∀ {d':Dd},d' ∈ s.ds→nOf s' d'=nOf s d':=fun h=>LG e h
 have hrn:∀ q ∈ r,q.2.sp.n=N:=fun q hq=>(Pq f n rl (hr q hq)).1
 have eds:s'.ds=s.ds ++ r.map (·.1):=by unfold Stt.ds;rw [e,List.map_append]
 have allN:∀ q ∈ s'.ss,q.2.sp.n≤N:=fun q hq=>by
  rw [e] at hq
  rcases List.mem_append.mp hq with z | z
  ·exact up0 q z
  ·rw [hrn q z];exact Nat.le_refl _
 have leN:∀ {d':Dd},d' ∈ s'.ds→nOf s' d'≤N:=fun h=>by
  obtain ⟨q,hq,eq⟩:=Y2 h
  rw [← eq,ZQ nd hq]
  exact allN q hq
 have hjl:j < s.ds.length:=(List.getElem?_eq_some_iff.mp hd).1
 have pre:∀ i d',i < j + 1→s'.ds[i]?=some d'→s.ds[i]?=some d':=fun i d' hi h=>by
  rw [eds,List.getElem?_append_left (11:)] at h
  exact h
 refine ⟨nd,fun q hq=>?_,fun i hi c hc=>?_,fun i d' hi h x hx c hc=>?_,fun i hi h=>A.ft1 _ (B.f0 i hi h),fun i d' hi h x hx hc=>?_,fun g hg=>?_,?_,fun d' h q hq=>?_⟩
 ·rw [e] at hq
  rcases List.mem_append.mp hq with z | z
  ·rcases B.src q z with y | ⟨d',y1,y2⟩
   ·exact .inl y
   ·exact .inr ⟨d',keep y1,by rw [nk y1];exact y2⟩
  ·exact .inr ⟨d,keep hdm,by rw [nk hdm,hN];exact hr q z⟩
 ·obtain ⟨h1,h2⟩:=B.st i hi c hc
  exact ⟨keep h1,by rw [nk h1];exact h2⟩
 ·have h':=pre i d' hi h
  have hm:=List.mem_of_getElem? h'
  rw [nk hm] at hx ⊢
  rcases Nat.lt_or_ge i j with z | z
  ·obtain ⟨h1,h2⟩:=B.go i d' z h' x hx c hc
   exact ⟨keep h1,by rw [nk h1];exact h2⟩
  ·obtain rfl:i=j:=by lia
   obtain rfl:=Option.some.inj (h'.symm.trans hd)
   rw [hN] at hx ⊢
   have:=A.call x hx c hc
   exact ⟨this,leN this⟩
 ·have h':=pre i d' hi h
  have hm:=List.mem_of_getElem? h'
  rw [nk hm] at hx
  rcases Nat.lt_or_ge i j with z | z
  ·exact A.ft1 _ (B.fg i d' z h' x hx hc)
  ·obtain rfl:i=j:=by lia
   obtain rfl:=Option.some.inj (h'.symm.trans hd)
   rw [hN] at hx
   exact A.ft2 x hx hc
 ·rcases A.ft3 g hg with z | z
  ·rcases B.fs g z with y | ⟨d',y1,y2⟩
   ·exact .inl y
   ·exact .inr ⟨d',keep y1,by rw [nk y1];exact y2⟩
  ·exact .inr ⟨d,keep hdm,by rw [nk hdm,hN];exact z⟩
 ·rw [e,List.pairwise_append]
  refine ⟨B.pw,?_,fun a ha b hb=>by rw [hrn b hb];exact up0 a ha⟩
  rw [List.pairwise_iff_getElem]
  intro i j hi hj _
  rw [hrn _ (List.getElem_mem hi),hrn _ (List.getElem_mem hj)]
  exact Nat.le_refl _
 ·-- the next one has no fewer names
  have hd':nOf s d≤nOf s' d':=by
   rw [eds] at h
   have hk:j + 1 < (s.ds ++ r.map (·.1)).length:=(List.getElem?_eq_some_iff.mp h).1
   have hl:s'.ss.length=(s.ds ++ r.map (·.1)).length:=by rw [← eds];unfold Stt.ds;rw [List.length_map]
   have hj1:j + 1 < s'.ss.length:=by lia
   have hj0:j < s'.ss.length:=by lia
   have pw:s'.ss.Pairwise fun a b=>a.2.sp.n≤b.2.sp.n:=by
    rw [e,List.pairwise_append]
    refine ⟨B.pw,?_,fun a ha b hb=>by rw [hrn b hb];exact up0 a ha⟩
    rw [List.pairwise_iff_getElem]
    intro i j hi hj _
    rw [hrn _ (List.getElem_mem hi),hrn _ (List.getElem_mem hj)]
    exact Nat.le_refl _
   have:=(List.pairwise_iff_getElem.mp pw) j (j + 1) hj0 hj1 (11:)
   have e0:s'.ss[j].1=d:=by
    have h1:s'.ds[j]?=some d:=by rw [eds,List.getElem?_append_left hjl];exact hd
    unfold Stt.ds at h1
    rw [List.getElem?_map,List.getElem?_eq_getElem hj0] at h1
    exact Option.some.inj h1
   have e1:s'.ss[j + 1].1=d':=by
    rw [← eds] at h
    unfold Stt.ds at h
    rw [List.getElem?_map,List.getElem?_eq_getElem hj1] at h
    exact Option.some.inj h
   rw [← ZQ nd (List.getElem_mem hj0),← ZQ nd (List.getElem_mem hj1),e0,e1,nk hdm] at this
   exact this
  have:=allN q hq
  lia
theorem bfs:∀ (m j:Nat) (s:Stt),Bf f n rl L0 j s→∃ j',Bf f n rl L0 j' (Ug f n rl m j s)∧((Ug f n rl m j s).ds.length≤j'∨j'=j + m)
 | 0,j,s,B=>⟨j,B,.inr rfl⟩
 | m + 1,j,s,B=>by
  rw [Ug]
  cases e:s.ds[j]? with
  | none=>exact ⟨j,B,.inl (List.getElem?_eq_none_iff.mp e)⟩
  | some d =>
   obtain ⟨j',h1,h2⟩:=bfs m (j + 1) _ (B.next e)
   exact ⟨j',h1,h2.imp id (11:)⟩
end
end K61
namespace K61
open PySem L2 TM TT K9 K11
def Zi (s:Stt):Nat→Option Dd→List Int→List (Rw × Int)→List (Rw × Int) × List Int
 | 0,_,p,w=>(w,p)
 | _ + 1,none,p,w=>(w,p)
 | m + 1,some d,p,w=>match s.ss.find? fun q=>decide (q.1=d) with
  | some q=>Zi s m q.2.sp.dm (q.2.pl ++ p) ((q.2.sp.row,q.2.br) :: w)
  | none=>(w,p)
def GX (ks:List KdT) (ab:Rw) (s:Stt) (sp:Spot):Prop:=UD ks sp.row∧(sp.dm=none→sp.n=0∧sp.row=ab)∧∀ d,sp.dm=some d→d ∈ s.ds∧sp.n=nOf s d + 1
structure Gd (ks:List KdT) (ab:Rw) (s:Stt):Prop where
 nd:s.ds.Nodup
 sp:∀ q ∈ s.ss,GX ks ab s q.2.sp∧q.2.pl.length≤100∧U9 (q.2.sp.row,q.2.br)
 ft:∀ f,s.ft=some f→GX ks ab s f.1∧f.2.length≤100
theorem Gd.find {ks:List KdT} {ab:Rw} {s:Stt} (g:Gd ks ab s) {d:Dd} (h:d ∈ s.ds):∃ q,s.ss.find? (fun q=>decide (q.1=d))=some q∧q ∈ s.ss∧q.1=d∧nOf s d=q.2.sp.n:=by
 cases e:s.ss.find? fun q=>decide (q.1=d) with
 | none =>
  obtain ⟨q,hq,eq⟩:=Y2 h
  have:=List.find?_eq_none.mp e q hq
  simp [eq] at this
 | some q =>
  have hm:=List.mem_of_find?_eq_some e
  have hq:q.1=d:=by simpa using List.find?_some e
  exact ⟨q,rfl,hm,hq,by rw [← hq];exact ZQ g.nd hm⟩
theorem Lm {ks:List KdT} {ab:Rw} {s:Stt} (g:Gd ks ab s):∀ (m:Nat) (sp:Spot) (p:List Int) (w:List (Rw × Int)),GX ks ab s sp→sp.n < m→(∀ q ∈ w,UD ks q.1∧U9 q) →
 ∃ w',(Zi s m sp.dm p w).1=w' ++ w∧w'.length=sp.n∧(∀ q ∈ w' ++ w,UD ks q.1∧U9 q)∧(sp.n=0→sp.row=ab)∧∀ q,w'[0]?=some q→q.1=ab
 | 0,_,_,_,_,h,_=>absurd h (Nat.not_lt_zero _)
 | m + 1,sp,p,w,⟨h1,h2,h3⟩,hm,hw=>by
  cases e:sp.dm with
  | none =>
   obtain ⟨e0,er⟩:=h2 e
   exact ⟨[],rfl,by rw [e0];rfl,hw,fun _=>er,fun q hq=>by simp at hq⟩
  | some d =>
   obtain ⟨hd,hn⟩:=h3 d e
   obtain ⟨q,hf,hq,eq,en⟩:=g.find hd
   obtain ⟨s1,s2,s3⟩:=g.sp q hq
   have hw2:∀ x ∈ (q.2.sp.row,q.2.br) :: w,UD ks x.1∧U9 x:=fun x hx=>by
    rcases List.mem_cons.mp hx with z | z
    ·rw [z];exact ⟨s1.1,s3⟩
    ·exact hw x z
   obtain ⟨w',e1,e2,e3,e4,e5⟩:=Lm g m q.2.sp (q.2.pl ++ p) _ s1 (11:) hw2
   refine ⟨w' ++ [(q.2.sp.row,q.2.br)],?_,by rw [List.length_append,e2,List.length_singleton];lia,?_,fun z=>by lia,fun x hx=>?_⟩
   ·rw [Zi,hf]
    show (Zi s m q.2.sp.dm (q.2.pl ++ p) _).1=_
    rw [e1,List.append_assoc];rfl
   ·rw [List.append_assoc];exact e3
   ·cases w' with
    | nil =>
     have:x=(q.2.sp.row,q.2.br):=by
      have:some (q.2.sp.row,q.2.br)=some x:=hx
      exact (Option.some.inj this).symm
     rw [this]
     exact e4 e2.symm
    | cons y r=>exact e5 x hx
theorem Xb (ks:List KdT) (s:Str):lv (QS ks s)=1:=rfl
theorem UR (ks:List KdT):∀ ss:List Str,lvs (ss.map (QS ks))=if 0 < ss.length then 1 else 0
 | []=>rfl
 | s :: r=>by
  show max (lv (QS ks s)) (lvs (r.map (QS ks)))=_
  rw [UR ks r,Xb]
  simp only [List.length_cons]
  rw [if_pos (Nat.succ_pos _)]
  split <;> rfl
theorem GN (ks:List KdT) (r:Rw):lv (Zk ks r)=1 + if 0 < r.2.length then 1 else 0:=by
 show 1 + lvs (r.2.map (QS ks))=_
 rw [UR]
theorem Va (ks:List KdT) (t:Tree Str) (ht:1≤lv t):∀ (ss:List Str) (i:Nat),i < ss.length→lvs ((ss.map (QS ks)).set i t)=lv t
 | [],i,h=>absurd h (Nat.not_lt_zero _)
 | s :: r,0,_=>by
  show max (lv t) (lvs (r.map (QS ks)))=_
  rw [UR]
  split <;> lia
 | s :: r,i + 1,h=>by
  show max (lv (QS ks s)) (lvs ((r.map (QS ks)).set i t))=_
  rw [Va ks t ht r i (by simpa using h),Xb]
  lia
theorem YQ (ks:List KdT) {q:Rw × Int} (h:U9 q) (t:Tree Str):∃ i:Nat,q.2=(i:Int)∧i < q.1.2.length∧putB (Zk ks q.1) [q.2] t=.node q.1.1 0 ((q.1.2.map (QS ks)).set i t):=by
 obtain ⟨i,e,hi⟩:=h
 refine ⟨i,e,hi,?_⟩
 rw [e]
 unfold Zk
 rw [Jl (b:=QS ks q.1.2[i]) _ _ _ _ _ _ (by rw [Int.toNat_natCast,List.getElem?_map,List.getElem?_eq_getElem hi];rfl),Xy,Int.toNat_natCast]
theorem GD (ks:List KdT) (r:Rw):∀ w:List (Rw × Int),(∀ q ∈ w,UD ks q.1∧U9 q)→lv (wayT ks w r)=w.length + 1 + if 0 < r.2.length then 1 else 0
 | [],_=>by
  show lv (Zk ks r)=_
  rw [GN,List.length_nil]
 | q :: w,h=>by
  have ih:=GD ks r w fun x hx=>h x (List.mem_cons_of_mem _ hx)
  obtain ⟨i,_,hi,e⟩:=YQ ks (h q List.mem_cons_self).2 (wayT ks w r)
  show lv (putB (Zk ks q.1) [q.2] (wayT ks w r))=_
  rw [e]
  show 1 + lvs _=_
  rw [Va ks _ (11:) _ i hi,ih,List.length_cons]
  lia
theorem XM {ks:List KdT} {k1:Str} {s:Stt} (g:Gd ks (S [],[k1]) s) {sp:Spot} (h:GX ks (S [],[k1]) s sp) {m:Nat} (hm:sp.n < m) (p:List Int):∃ u,(wayT ks (Zi s m sp.dm p []).1 sp.row).bs[0]?=some u∧lv u=sp.lv∧(Zi s m sp.dm p []).1.length=sp.n∧∀ q ∈ (Zi s m sp.dm p []).1,UD ks q.1∧U9 q:=by
 obtain ⟨w',e1,e2,e3,e4,e5⟩:=Lm g m sp p [] h hm fun q hq=>(nomatch hq)
 rw [List.append_nil] at e1 e3
 rw [e1]
 cases w' with
 | nil =>
  have er:=e4 e2.symm
  have e0:sp.n=0:=e2.symm
  refine ⟨QS ks k1,?_,?_,e2,e3⟩
  ·rw [er];rfl
  ·rw [Xb];unfold Spot.lv;rw [er,e0];rfl
 | cons q r =>
  have eq:=e5 q rfl
  obtain ⟨i,ei,hi,ep⟩:=YQ ks (e3 q List.mem_cons_self).2 (wayT ks r sp.row)
  rw [eq] at hi
  obtain rfl:i=0:=by
   have:i < 1:=hi
   lia
  refine ⟨wayT ks r sp.row,?_,?_,e2,e3⟩
  ·show (putB (Zk ks q.1) [q.2] (wayT ks r sp.row)).bs[0]?=_
   rw [ep,eq];rfl
  ·rw [GD ks sp.row r fun x hx=>e3 x (List.mem_cons_of_mem _ hx)]
   unfold Spot.lv
   rw [← e2,List.length_cons]
end K61
namespace K61
open PySem L2 TM TT K9 K11
theorem WyAt.kp {K:PySem.W.Frag} {H H':Hp} {w:List (Addr × Rw × Int)} (k:Kp K H H') (h:WyAt K H w):WyAt K H' w:=fun q hq=>by
 obtain ⟨ra,h1,h2⟩:=h q hq
 exact ⟨ra,k.2 _ _ h1,h2.kp k⟩
theorem Kp.put {K:PySem.W.Frag} {H:Hp} {l:Addr} {xs:List V} {o:HO} (h:H l=some (.lst xs)):Kp K H (upd H l o):=⟨fun a ys e=>by rw [Qj (ne_of e h (12:))];exact e,fun a ys e=>e.put h⟩
def OO (K:PySem.W.Frag) (C:Addr):Sp:=fun vs H Q _=>∃ (nm:Nat) (ks ks1:List KdT) (x dx tu kb st wt wd lm:Addr) (sv fv:V) (s:Stt) (k1:Str) (f:Spot × List Int) (u:Tree Str),vs=[.ref x]∧DmS K C nm ks H x dx tu kb st wt fv s∧SqT K H tu [.ref wd,sv,.ref lm]∧WoodAt K H wd ks1∧WoodOk ks1∧Gd ks1 (S [],[k1]) s∧s.ft=some f∧f.1.n≤900∧(wayT ks1 (Zi s (f.1.n + 1) f.1.dm f.2 []).1 f.1.row).bs[0]?=some u ∧
 ∀ (p qa:Addr) (v:V) (H':Hp),Same H H'→SqT K H' p [v,.ref qa]→TrV K H' v u→SqT K H' qa ((Zi s (f.1.n + 1) f.1.dm f.2 []).2.map V.int)→Q (.ref p) H'
section
variable {P:Program} {w:World} {K:PySem.W.Frag} {mg:Str→Option Value} {base:Heap} {f:Addr} {fd:FuncData} {C:Addr}
theorem Xn:FnScope ["self", "spot", "place", "demand", "way", "step"] ["self"] (defScope sTP):=(1:)
theorem Oa (F:Fun K "tree_and_place" "Demands.tree_and_place" sTP f fd) (G:Gm mg) (T:DmT K mg C) (RT:Fn P w K mg base 4 "tree_on" ["wood", "way", "row", "mark"] (YH K)):FnOk P w K mg base CX0 5 f fd ["self"] (OO K C):=by
 refine F.ok Xn (8:) (4:)
 ·obtain ⟨nm,ks,ks1,x,dx,tu,kb,st,wt,wd,lm,sv,fv,s,k1,g,u,rfl,_⟩:=h
  rfl
 obtain ⟨nm,ks,ks1,x,dx,tu,kb,st,wt,wd,lm,sv,fv,s,k1,g,u,rfl,D,htu,hW,hO,hG,hft,hn9,hu,hQ⟩:=h
 refine ⟨_,(Qe (Ql (i:=1) Xn.nd rfl (7:) (Qi Qg (QY (pv 0) rfl) Qb (3:)))
  (Qe (Ql (i:=2) Xn.nd rfl (7:) (Qi Qg (QY (pv 0) rfl) Qb (3:)))
  (Qe (Ql (i:=3) Xn.nd rfl (7:) (25:))
  (Qe (Ql (i:=4) Xn.nd rfl (7:) (QM Qd))
  (Qe (YE PassesOwn.never (Qp Uj (pv 3) Q5 (Qt _)) (Qe (Ql (i:=5) Xn.nd rfl (7:) (Zg (Ze hr) (QY (pv 0) rfl) (pv 3) (3:)))
  (Qe (QJ (Zo PySem.F.plainAttrs_list PySem.F.slot_list_insert PySem.F.type_list_insert WJ (pv 4) (Qa (Qb) (Qa ((Qv (Qa (Qi Qg (Qi Qg (pv 5) Qb (3:)) Qb (3:)) (Qa (Qb) (Qa (Qi Qg (pv 5) Qb (3:)) Qd))))) Qd))))
  (Qe (Ql (i:=2) Xn.nd rfl (7:) (Qm Yi (Qi Qg (pv 5) Qb (3:)) (pv 2)))
  (Qh (Ql (i:=3) Xn.nd rfl (7:) (Qi Qg (Qi Qg (pv 5) Qb (3:)) Qb (3:))))))))
  (Qh (Qo (Qv (Qa (Qs RT hr (Qa (Qi Qg (QY (pv 0) rfl) Qb (3:)) (Qa (pv 4) (Qa (25:) (Qa (Qb) Qd))))) (Qa (pv 2) Qd)))))))))),?_⟩
 have hx:=D.hx
 have fo:=D.fo
 rw [hft] at fo
 obtain ⟨fa,sp,pl,rfl,hfa,hsp,hpl⟩:=fo
 obtain ⟨vd,ra,p1,p2,p3⟩:=id hsp
 obtain ⟨gok,glen⟩:=hG.ft g hft
 refine ⟨_,rfl,x,C,dx,_,_,rfl,hx,T.cl,T.nF,rfl,fa,_,0,_,rfl,rfl,hfa,rfl,?_⟩
 refine ⟨_,rfl,x,C,dx,_,_,rfl,hx,T.cl,T.nF,rfl,fa,_,1,_,rfl,rfl,hfa,rfl,?_⟩
 refine ⟨_,rfl,sp,_,1,_,rfl,rfl,p1,rfl,(16:),fun lw hlw=>?_⟩
 have g1:=Qf hlw (.lst [])
 refine Uq (fun m σ H'=>∃ (c5:Option V) (pa:Addr) (q:List Int) (vd:V) (o:Option Dd) (wy:List (Addr × Rw × Int)),σ=[some (.ref x),some (.ref sp),some (.ref pa),some vd,some (.ref lw),c5]∧Same H H'∧H' lw=some (.lst (wy.map fun q=>V.ref q.1))∧WyAt K H' wy∧SqT K H' pa (q.map V.int)∧DdV H' vd o∧(∀ d,o=some d→d ∈ s.ds∧nOf s d + 1 < m)∧0 < m∧wy.length + m≤901∧q.length + 100 * m≤100 + 90100 ∧
  Zi s m o q (wy.map (·.2))=Zi s (g.1.n + 1) g.1.dm g.2 []) (g.1.n + 1)
  ⟨none,pl,g.2,vd,g.1.dm,[],rfl,g1,Qc,fun q hq=>(nomatch hq),g1.seqT hpl,p2.kp (K:=K) (.of g1),fun d hd=>⟨(gok.2.2 d hd).1,by have:=(gok.2.2 d hd).2;lia⟩,Nat.succ_pos _,by simp only [List.length_nil];lia,by lia,rfl⟩ ?_ ?_
 ·rintro m σ H' ⟨c5,pa,q,vd,o,wy,rfl,gs,hl,hwy,hpa,hvd,hod,hm0,hwl,hql,hway⟩
  obtain ⟨m,rfl⟩ : ∃ m',m=m' + 1:=⟨m - 1,by lia⟩
  cases o with
  | none =>
   obtain rfl:vd=.non:=hvd
   refine ⟨_,rfl,rfl,_,rfl,Q3 ?_⟩
   have hw2:(wy.map (·.2),q)=Zi s (g.1.n + 1) g.1.dm g.2 []:=hway
   rw [← hw2] at hu hQ
   obtain ⟨u',_,_,_,hqk⟩:=XM hG gok (Nat.lt_succ_self _) g.2
   rw [← hw2] at hqk
   refine ⟨_,rfl,x,C,dx,_,_,rfl,gs _ _ hx,T.cl,T.nT,rfl,tu,_,0,_,rfl,rfl,gs.seqT htu,rfl,_,rfl,_,rfl,sp,_,2,_,rfl,rfl,gs.seqT p1,rfl,wd,lw,ra,ks1,wy,g.1.row,u,rfl,hW.same gs,hO,hl,hwy,p3.kp (.of gs),gok.1,fun y hy=>hqk y.2 (List.mem_map_of_mem hy),hu,fun v H2 g2 hv=>⟨_,rfl,(23:),fun p hp=>?_⟩⟩
   have g3:=Qf hp (.tup [v,.ref pa])
   exact hQ p pa v _ (gs.trans (g2.trans g3)) (SqT.of Qc) (hv.mono fun _ _=>g3.seqT) ((g2.trans g3).seqT hpa)
  | some d =>
   obtain ⟨dp,rfl,hdp⟩:=hvd
   obtain ⟨hd,hnm⟩:=hod d rfl
   refine ⟨_,rfl,rfl,_,rfl,Q8 ?_⟩
   have D':=D.same gs
   obtain ⟨kvs,a1,a2,a3⟩:=id D'.hst
   have ev:=JO d kvs
   obtain ⟨e,hf,hq,eq,en⟩:=hG.find hd
   have ef:(kvs.find? fun q=>decide (q.1.1=d)).map (·.1)=some e:=by
    rw [← hf,← a1,List.find?_map];rfl
   cases ek:kvs.find? fun q=>decide (q.1.1=d) with
   | none=>rw [ek] at ef;cases ef
   | some z =>
    rw [ek] at ef ev
    have ez:z.1=e:=Option.some.inj ef
    obtain ⟨sa,sp',pl',ez2,z1,z2,z3⟩:=a3 z (List.mem_of_find?_eq_some ek)
    rw [ez] at z1 z2 z3
    obtain ⟨vd',ra',y1,y2,y3⟩:=id z2
    have hget:=DGet.t (k:=[Sum.inl d.1,Sum.inr d.2]) a2 hdp
    rw [ev,show (some z).map (·.2)=some z.2 from rfl,ez2] at hget
    obtain ⟨s1,s2,s3⟩:=hG.sp e hq
    refine ⟨_,rfl,x,C,dx,_,_,rfl,D'.hx,T.cl,T.nS,rfl,_,rfl,st,_,rfl,hget,?_⟩
    refine ⟨_,rfl,.inl ⟨rfl,_,SqL.of hl⟩,_,rfl,sa,_,0,_,rfl,rfl,z1,rfl,sp',_,2,_,rfl,rfl,y1,rfl,_,rfl,sa,_,2,_,rfl,rfl,z1,rfl,(20:),fun pt hpt=>?_⟩
    have g4:=Qf hpt (.tup [.ref ra',.int 0,.int e.2.br])
    refine ⟨lw,_,.ref pt,rfl,rfl,g4 _ _ hl,(by rw [List.length_map,Qz];lia),?_⟩
    have k5:Kp K (upd H' pt (.tup [.ref ra',.int 0,.int e.2.br])) (55:):=Kp.put (g4 _ _ hl)
    have k45:Kp K H' (55:):=⟨fun a ys h=>k5.1 _ _ (g4 _ _ h),fun a ys h=>k5.2 _ _ (g4.seqT h)⟩
    have gs5:Same H (55:):=fun b o e=>by
     rw [Qj (Qk e hlw)]
     exact g4 _ _ (gs _ _ e)
    refine ⟨_,rfl,sa,_,1,_,rfl,rfl,k45.2 _ _ z1,rfl,_,rfl,pl',pa,_,_,rfl,rfl,k45.2 _ _ z3,k45.2 _ _ hpa,(by rw [List.length_map,List.length_map,Qz];lia),fun p6 H6 g6 hp6=>?_⟩
    have k6:Kp K H' H6:=⟨fun a ys h=>g6 _ _ (k45.1 _ _ h),fun a ys h=>g6.seqT (k45.2 _ _ h)⟩
    refine ⟨_,rfl,sa,_,0,_,rfl,rfl,k6.2 _ _ z1,rfl,sp',_,1,_,rfl,rfl,k6.2 _ _ y1,rfl,?_⟩
    rw [← List.map_append] at hp6
    refine ⟨m,Nat.lt_succ_self _,_,p6,e.2.pl ++ q,vd',e.2.sp.dm,(pt,e.2.sp.row,e.2.br) :: wy,rfl,gs5.trans g6,g6 _ _ Qc,fun y hy=>?_,hp6,y2.kp k6,fun d' hd'=>?_,by lia,by simp only [List.length_cons];lia,by rw [List.length_append];lia,?_⟩
    ·rcases List.mem_cons.mp hy with z | z
     ·rw [z]
      exact ⟨ra',g6.seqT (k5.2 _ _ (SqT.of Qc)),y3.kp k6⟩
     ·exact hwy.kp k6 y z
    ·obtain ⟨h1,h2⟩:=s1.2.2 d' hd'
     exact ⟨h1,by lia⟩
    ·rw [← hway,Zi,hf];rfl
 ·intro σ H Q Q' hm h
  obtain ⟨v1,h1,h2,v2,h3,h4⟩:=h
  exact ⟨v1,h1,h2,v2,h3,hm _ _ h4⟩
end
end K61
namespace K61
open PySem L2 TM TT K9 K11
structure DmM (P:Program) (w:World) (K:PySem.W.Frag) (mg:Str→Option Value) (base:Heap) (C:Addr) (n:Nat):Prop where
 t:DmT K mg C
 mi:∃ f fd,Mk K C f∧FnOk P w K mg base CX0 (n + 4) f fd ["self", "turning", "wood"] (Lk K C n)∧Binds K fd ["self", "turning", "wood"] []
 tp:∃ f fd,Meth K C "tree_and_place" f∧FnOk P w K mg base CX0 5 f fd ["self"] (OO K C)∧Binds K fd ["self"] []
def JQ (ks ks1:List KdT) (nm n:Nat) (t0:Tm) (ms:List MoT) (k1 k0:Str):Stt:=Ug (46:) n (QB ks1 ms) (nm * ks.length + 1) 0 (Y4 (46:) n t0 k1 k0)
def X0 (K:PySem.W.Frag) (n:Nat):Sp:=fun vs H Q _=>∃ (nm:Nat) (tu wd lm wo:Addr) (sv:V) (ks1 ks:List KdT) (k01 k00:KdT) (t0:Tm) (ms:List MoT) (s:Stt),vs=[.ref tu,.ref wo]∧TuAt K H tu wd sv lm ks1 t0 ms∧TuOk ks1 nm n t0 ms∧ks1[0]?=some k01∧WoodAt K H wo ks∧WG ks∧ks[0]?=some k00∧nm * ks.length≤1000∧n≤100∧s=JQ ks ks1 nm n t0 ms k01.2.1 k00.2.1 ∧
 (s.ds.Nodup→(∀ d ∈ s.ds,DOk nm ks d)→Gd ks1 (S [],[k01.2.1]) s∧∀ f,s.ft=some f→f.1.lv≤40) ∧
 ∀ (H':Hp),Same H H'→s.ds.Nodup→(∀ d ∈ s.ds,DOk nm ks d)→(s.ft=none→Q .non H')∧∀ (f:Spot × List Int) (u:Tree Str) (p qa:Addr) (v:V),s.ft=some f→(wayT ks1 (Zi s (f.1.n + 1) f.1.dm f.2 []).1 f.1.row).bs[0]?=some u→lv u=f.1.lv→SqT K H' p [v,.ref qa]→TrV K H' v u→SqT K H' qa ((Zi s (f.1.n + 1) f.1.dm f.2 []).2.map V.int)→Q (.ref p) H'
section
variable {P:Program} {w:World} {K:PySem.W.Frag} {mg:Str→Option Value} {base:Heap} {f:Addr} {fd:FuncData} {C:Addr}
theorem MT:FnScope ["turning", "wood", "demands"] ["turning", "wood"] (defScope J5):=(1:)
theorem NQ {n:Nat} (F:Fun K "strays" "strays" J5 f fd) (M:DmM P w K mg base C n) (RL:Fn P w K mg base 1 "levels_needed" ["fault"] (Xi K)) {t40:Tok} (h40:mg "MOST_LEVELS" = some (.int 40 t40)):FnOk P w K mg base CX0 (n + 6) f fd ["turning", "wood"] (X0 K n):=by
 obtain ⟨fI,fdI,mkI,FI,bI⟩:=M.mi
 obtain ⟨fP,fdP,mP,FP,bP⟩:=M.tp
 have T:=M.t
 refine F.ok MT (8:) (4:)
 ·obtain ⟨nm,tu,wd,lm,wo,sv,ks1,ks,k01,k00,t0,ms,s,rfl,_⟩:=h
  rfl
 obtain ⟨nm,tu,wd,lm,wo,sv,ks1,ks,k01,k00,t0,ms,s,rfl,hTu,hO,hk01,hWo,hWG,hk00,hnk,hn,es,hp,q⟩:=h
 have hr5:Room 5 _:=hr.mono (11:)
 have hr1:Room (n + 5) _:=hr.mono (11:)
 refine ⟨_,(Qe (Ql (i:=2) MT.nd rfl (7:) (Ml mkI FI hr rfl T.mgC bI .nil YC (Qa (pv 0) (Qa (pv 1) Qd))))
  (Qe (QF (YW (UJ (QY (pv 2) rfl))) (Qh (Qo Q5)) Qu)
  (Qe (QF (Qp Ji (Qs RL hr (Qa (QY (pv 2) rfl) Qd) (11:)) (Mh (v:=.int 40) rfl h40 ⟨_,rfl⟩) (Qt _)) Zn Qu)
  (Qh (Qo (La (pv 2) T.cl mP FP hr5 bP .nil YC)))))),?_⟩
 refine ⟨_,rfl,_,rfl,fun x dx nx ndx ne=>?_⟩
 have s0:Same H (upd (upd H dx (.own x)) x (.ins C dx [])):=fun b o e=>by
  rw [Qj (Qk e nx),Qj (Qk e ndx)]
  exact e
 refine ⟨nm,x,dx,tu,wd,lm,wo,sv,ks1,ks,k01,k00,t0,ms,rfl,Qc,hTu.same s0,hO,hk01,hWo.same s0,hWG,hk00,hnk,hn,fun H1 kb st wt fv gx D=>⟨rfl,?_⟩⟩
 have D:DmS K C nm ks H1 x dx tu kb st wt fv s:=by rw [es];exact D
 have s1:Same H H1:=fun b o e=>gx b o (Qk e nx) (s0 b o e)
 obtain ⟨hG,h40'⟩:=hp D.nd D.dk
 refine ⟨_,rfl,x,C,dx,_,_,rfl,D.hx,T.cl,T.nF,rfl,_,rfl,?_⟩
 have fo:=D.fo
 cases hft:s.ft with
 | none =>
  rw [hft] at fo
  obtain rfl:fv=.non:=fo
  exact Yr rfl ((q H1 s1 D.nd D.dk).1 hft)
 | some g =>
  rw [hft] at fo
  obtain ⟨fa,sp,pl,rfl,hfa,hsp,hpl⟩:=fo
  have hl40:=h40' g hft
  refine ZP (44:) ?_
  obtain ⟨u,hu,hlv,_,_⟩:=XM hG (hG.ft g hft).1 (Nat.lt_succ_self _) g.2
  have hn9:g.1.n≤900:=by unfold Spot.lv at hl40;lia
  refine ⟨_,rfl,x,C,dx,_,_,rfl,D.hx,T.cl,T.nF,rfl,fa,sp,.ref pl,_,rfl,hfa,hsp.lvAt,_,_,rfl,rfl,_,rfl,ZP (show ¬ ((g.1.lv:Int) > 40) by lia) ?_⟩
  have hT1:=hTu.same s1
  refine ⟨_,rfl,x,dx,_,rfl,D.hx,rfl,nm,ks,ks1,x,dx,tu,kb,st,wt,wd,lm,sv,.ref fa,s,k01.2.1,g,u,rfl,D,hT1.tu,hT1.wd,hO.wo,hG,hft,hn9,hu,fun p qa v H2 g2 hp hv hq=>?_⟩
  exact (q H2 (s1.trans g2) D.nd D.dk).2 g u p qa v hft hu hlv hp hv hq
end
end K61
namespace K61
open PySem L2 TM TT K9 K11
def Oo (t:TE):TE:=fun σ H Q=>∃ R:VK,t σ H R∧∀ v H',R v H'→Q v H'
theorem NU {X:Cx} {e:Expr} {t:TE} (h:PE X e t):PE X e (Oo t):=by
 intro pins s σ H Q I hw
 obtain ⟨R,h1,h2⟩:=hw
 exact thn (h pins s σ H R I h1) fun u s1 ⟨x,H1,I1,r1,q1⟩=>⟨x,H1,I1,r1,h2 x H1 q1⟩
def KdH (K:PySem.W.Frag) (H:Hp) (lw:Addr) (k:KdT):Prop:=SqT K H k.1 [.str k.2.1,.ref k.2.2.1]∧H k.2.2.1=some (.lst (k.2.2.2.map fun t=>V.ref t.1))∧k.2.2.1≠lw∧∀ t ∈ k.2.2.2,RowAt K H t
theorem KdH.same {K:PySem.W.Frag} {H H':Hp} {lw:Addr} {k:KdT} (g:Same H H') (h:KdH K H lw k):KdH K H' lw k:=⟨g.seqT h.1,g _ _ h.2.1,h.2.2.1,fun t ht=>(h.2.2.2 t ht).same g⟩
theorem KdH.put {K:PySem.W.Frag} {H:Hp} {lw:Addr} {k:KdT} {ys:List V} {o:HO} (hl:H lw=some (.lst ys)) (h:KdH K H lw k):KdH K (upd H lw o) lw k :=
 ⟨h.1.put hl,by rw [Qj h.2.2.1];exact h.2.1,h.2.2.1,fun t ht=>⟨(h.2.2.2 t ht).1.put hl,(h.2.2.2 t ht).2.put hl⟩⟩
abbrev N5 (K:PySem.W.Frag):List V→Hp→VK→Prop:=fun xs H Q=>∃ p ys,xs=[.ref p]∧(SqL K H p ys∨SqT K H p ys)∧Q (.int ys.length) H
structure KF (kn:List Str) (rs:List PNx):Prop where
 ok:RowsOk rs
 bare:∃ r ∈ rs,r.2.2.2=[]
 cl:∀ r ∈ rs,∀ x ∈ r.2.2.2,x ∈ kn
 w3:∀ r ∈ rs,r.2.2.2.length≤3
structure WF (ks:List KdT):Prop where
 ok:WoodOk ks
 ne:0 < ks.length
 l3:ks.length≤3
 nm:∀ k ∈ ks,PyData.strOk k.2.1=true
 kf:∀ k ∈ ks,KF (ks.map fun k=>k.2.1) k.2.2.2
def Wt (K:PySem.W.Frag):Sp:=fun vs H Q _=>∃ (c:Int) (ln:Addr) (ns:List Str),vs=[.int c,.ref ln]∧SqL K H ln (ns.map V.str)∧ns.length=8∧ns.Nodup∧(∀ x ∈ ns,PyData.strOk x=true) ∧
 ∀ (lw:Addr) (H':Hp) (ks:List KdT),Same H H'→WoodAt K H' lw ks→WF ks→Q (.ref lw) H'
abbrev OP:List Str:=["_law_cell", "_law_names_here", "_law_kinds", "_law_wood_here", "_law_i", "_law_first", "_law_rows", "_law_r", "_law_number", "_law_wide", "_law_branches"]
section
variable {P:Program} {w:World} {K:PySem.W.Frag} {mg:Str→Option Value} {base:Heap} {f:Addr} {fd:FuncData}
theorem ZA:FnScope OP ["_law_cell", "_law_names_here"] (defScope Vj):=(1:)
theorem LX (F:Fun K "_law_wood" "_law_wood" Vj f fd) (G:Gm mg) (RM:Fn P w K mg base 1 "_law_mixed" ["_law_cell", "_law_k"] ZX):FnOk P w K mg base CX0 2 f fd ["_law_cell", "_law_names_here"] (Wt K):=by
 refine F.ok ZA (8:) (4:)
 ·obtain ⟨c,ln,ns,rfl,_⟩:=h
  rfl
 obtain ⟨c,ln,ns,rfl,hln,hn8,hnd,hnok,q⟩:=h
 have room:∀ m:Nat,m≤64→(A.deeper (PyProof.Rows.envOfC "_law_wood" (defScope Vj) s.heap.objs.size f cdv)).units + m < cLine:=fun m hm=>by have:=hr.units;lia
 refine ⟨_,(Qe (Ql (i:=2) ZA.nd rfl (Or.inr rfl) (Zp JX (pv 1) ZT (ZZ (Qm QK Qb (Qm QD (pv 0) Qb)))))
  (Qe (Ql (i:=3) ZA.nd rfl (7:) (QM Qd))
  (Qe (QL PassesOwn.never rfl (QU rfl G.rng (Qa (Qr Qn rfl G.len PySem.boot_len (Qa (pv 2) Qd)) Qd)) (Qq (i:=4) ZA.nd rfl (7:)) (Qe (Ql (i:=5) ZA.nd rfl (7:) (Qs RM hr (Qa (pv 0) (Qa (pv 4) Qd))))
  (Qe (Ql (i:=6) ZA.nd rfl (7:) (QM Qd))
  (Qe (QL PassesOwn.never rfl (QU rfl G.rng (Qa (NU (Qm ZS (Qm QK Qb (Qm QD (pv 5) Qb)) (QE Jf rfl G.int PyProof.Rows.boot_int (Qa (UI (Z1 Ji (pv 4) Qb (Qt _)) (UV (Z1 Q1 (Qm QD (Qm QT (pv 5) Qb) Qb) Qb (Qt _)))) Qd)))) Qd)) (Qq (i:=7) ZA.nd rfl (7:)) (Qe (Ql (i:=8) ZA.nd rfl (Or.inr rfl) (Qs RM hr (Qa (pv 0) (Qa (Qm QK (Qm QK Qb (Qm ZR Qb (pv 4))) (pv 7)) Qd))))
  (Qe (Yt (Ql (i:=9) ZA.nd rfl (7:) (Qi Qx (QM (Qa (Qb) (Qa (Qm QK Qb (Qm QD (pv 8) Qb)) (Qa (Qm QD (pv 8) Qb) Qd)))) (pv 7) (3:))))
  (Qe (ZY (i:=10) (CompG.many (xs:=["_law_j"]) (caps:=["_law_kinds", "_law_number"]) (cap:=[2,8]) (cs:=[_,_]) rfl rfl (0:) (0:) (0:) (0:) (0:) (0:) rfl rfl rfl) rfl (QU rfl G.rng (Qa (pv 9) Qd)) (Z4 (CompG.many (xs:=["_law_j"]) (caps:=["_law_kinds", "_law_number"]) (cap:=[2,8]) (cs:=[_,_]) rfl rfl (0:) (0:) (0:) (0:) (0:) (0:) rfl rfl rfl)) (fun _ _ _ _=>ZB) (fun _ _ _ _=>Qi (r:=N6 K) Qx (pv 1) (Qm (r:=rI (fun _ j=>0 < j) fun i j=>.int (i % j)) QD (Qs RM hr (Qa (pv 2) (Qa (pv 0) Qd))) (Qr (r:=N5 K) Qn rfl G.len PySem.boot_len (Qa (pv 1) Qd))) (3:)) ZA.nd rfl rfl)
  (Qh (QJ (Zo PySem.F.plainAttrs_list PySem.F.slot_list_append PySem.F.type_list_append QR (pv 6) (Qa ((Qv (Qa (Qi Qx (pv 1) (Qm QD (Qm QK (Qm QT (pv 5) Qb) (pv 7)) Qb) (3:)) (Qa (QE Zz rfl G.tup PyProof.Rows.boot_tuple (Qa (pv 10) Qd)) Qd)))) Qd))))))))
  (Qh (QJ (Zo PySem.F.plainAttrs_list PySem.F.slot_list_append PySem.F.type_list_append QR (pv 3) (Qa ((Qv (Qa (Qi Qx (pv 2) (pv 4) (3:)) (Qa (Qr (J4 (room 4 (18:))) rfl G.srt PyProof.Rows.boot_sorted (Qa (pv 6) Qd)) Qd)))) Qd))))))))
  (Qh (Qo (pv 3)))))),?_⟩
 have m0:0≤c % 3:=Int.emod_nonneg _ (18:)
 have m1:c % 3 < 3:=Int.emod_lt_of_pos _ (18:)
 refine ⟨_,rfl,_,rfl,_,_,rfl,rfl,(by show (0:Int) < 3;decide),_,_,rfl,rfl,_,rfl,ln,_,rfl,hln,fun lk hlk=>?_⟩
 obtain ⟨mm,hmm⟩ : ∃ mm:Nat,1 + c % 3=(mm:Int):=⟨(1 + c % 3).toNat,by lia⟩
 dsimp only at hlk ⊢
 obtain ⟨kn,hkn⟩ : ∃ kn,kn=ns.take mm:=⟨_,rfl⟩
 have ecut:cutV (ns.map V.str) none (some (1 + c % 3))=kn.map V.str:=by rw [hmm,Lr,hkn,List.map_take]
 have g1:=Qf hlk (.lst (cutV (ns.map V.str) none (some (1 + c % 3))))
 have hlk1:upd H lk (.lst (cutV (ns.map V.str) none (some (1 + c % 3)))) lk=some (.lst (kn.map V.str)):=by rw [← ecut];exact Qc
 generalize upd H lk (.lst (cutV (ns.map V.str) none (some (1 + c % 3))))=H1 at g1 hlk1
 have hkl:kn.length=mm:=by rw [hkn,List.length_take];lia
 have hknd:kn.Nodup:=by rw [hkn];exact hnd.sublist (List.take_sublist _ _)
 have hkok:∀ x ∈ kn,PyData.strOk x=true:=fun x hx=>hnok x (List.mem_of_mem_take (by rw [← hkn];exact hx))
 have hkm:(kn.map V.str).length=kn.length:=List.length_map ..
 refine ⟨(16:),fun lw hlw=>?_⟩
 have k2:=Qf hlw (.lst [])
 refine ⟨_,rfl,lk,_,rfl,.inl (SqL.of (k2 _ _ hlk1)),_,rfl,by rw [hkm];lia,by rw [hkm];lia,?_⟩
 have en:(((kn.map V.str).length:Nat):Int).toNat=kn.length:=by rw [hkm];lia
 rw [en]
 refine Q7 (lo:=0) (n:=kn.length) (fun i σ H'=>∃ (c4 c5 c6 c7 c8 c9 c10:Option V) (ks:List KdT),σ=[some (.int c),some (.ref ln),some (.ref lk),some (.ref lw),c4,c5,c6,c7,c8,c9,c10]∧Same H1 H'∧H' lw=some (.lst (52:))∧(∀ k ∈ ks,KdH K H' lw k∧KF kn k.2.2.2)∧(ks.map fun k=>k.2.1)=kn.take i)
  ⟨none,none,none,none,none,none,none,[],rfl,k2,Qc,fun k hk=>(nomatch hk),rfl⟩ ?_ ?_
 ·rintro i σ H2 hi ⟨c4,c5,c6,c7,c8,c9,c10,ks,rfl,g2,hlw2,hks,hkk⟩
  have hksl:ks.length=i:=by
   have:=congrArg List.length hkk
   rw [List.length_map,List.length_take] at this
   lia
  refine ⟨_,rfl,_,rfl,c,_,rfl,by lia,by lia,fun fi f0 f1=>?_⟩
  refine ⟨(16:),fun lr hlr=>?_⟩
  have k3:=Qf hlr (.lst [])
  have hlrw:lw≠lr:=fun z=>by rw [← z,hlw2] at hlr;cases hlr
  refine ⟨fun v H'=>H'=upd H2 lr (.lst [])∧∃ n:Nat,v=.int (n:Int)∧1≤n∧n≤3,?_,?_⟩
  ·refine ⟨_,rfl,_,_,rfl,rfl,(by show (0:Int) < 2;decide),_,_,rfl,rfl,?_⟩
   have p0:0≤fi % 2:=Int.emod_nonneg _ (18:)
   have p1:fi % 2 < 2:=Int.emod_lt_of_pos _ (18:)
   refine ⟨_,rfl,_,_,rfl,rfl,_,rfl,Yl (fun _=>?_) (fun hb=>?_)⟩
   ·refine ⟨_,rfl,_,_,rfl,rfl,(21:),_,_,rfl,rfl,(by show (0:Int) < 3;decide),rfl,.inr ⟨_,rfl,_,_,rfl,rfl,rfl,?_⟩⟩
    refine ⟨(2 + fi % 2 - (if decide (V.int (fi / 2 % 3)=V.int 0)=true then 1 else 0)).toNat,?_,?_,?_⟩
    ·rw [Int.toNat_of_nonneg (by split <;> lia)]
    ·split <;> lia
    ·split <;> lia
   ·refine .inr ⟨_,rfl,_,_,rfl,rfl,rfl,(2 + fi % 2).toNat,?_,by lia,by lia⟩
    dsimp only
    rw [Int.toNat_of_nonneg (11:)]
    simp
  rintro v H3 ⟨rfl,cnt,rfl,hc1,hc3⟩
  refine ⟨_,rfl,by lia,by lia,?_⟩
  rw [Int.toNat_natCast]
  refine Q7 (lo:=0) (n:=cnt) (fun r σ H'=>∃ (c7 c8 c9 c10:Option V) (rs:List PNx),σ=[some (.int c),some (.ref ln),some (.ref lk),some (.ref lw),some (.int (0 + (i:Int))),some (.int fi),some (.ref lr),c7,c8,c9,c10]∧Same H2 H'∧H' lr=some (.lst (rs.map fun t=>V.ref t.1))∧rs.length=r∧(∀ t ∈ rs,RowAt K H' t∧(∀ x ∈ t.2.2.2,x ∈ kn)∧t.2.2.2.length≤3)∧(∀ (j:Nat) t,rs[j]?=some t→ns[((fi / 16 + (j:Int)) % 8).toNat]?=some t.2.1)∧∀ t,rs[0]?=some t→t.2.2.2=[])
   ⟨_,_,_,_,[],rfl,k3,Qc,rfl,fun t ht=>(nomatch ht),fun j t h=>by simp at h,fun t h=>by simp at h⟩ ?_ ?_
  ·rintro r σ H4 hr3 ⟨c7,c8,c9,c10,rs,rfl,g4,hlr4,hrl,hrs,hrn,hr0⟩
   refine ⟨_,rfl,_,rfl,_,_,rfl,rfl,.inl (21:),_,_,rfl,rfl,_,rfl,_,_,rfl,rfl,c,_,rfl,by lia,by lia,fun nu n0 n1=>?_⟩
   refine ⟨fun σ' H'=>Same H4 H'∧∃ wi:Nat,wi≤3∧(r=0→wi=0)∧σ'=[some (.int c),some (.ref ln),some (.ref lk),some (.ref lw),some (.int (0 + (i:Int))),some (.int fi),some (.ref lr),some (.int (0 + (r:Int))),some (.int nu),some (.int (wi:Int)),c10],?_,?_⟩
   ·refine ⟨_,rfl,_,_,rfl,rfl,(by show (0:Int) < 2;decide),_,_,rfl,rfl,_,rfl,_,_,rfl,rfl,(by show (0:Int) < 3;decide),(20:),fun pl hpl=>?_⟩
    have a0:0≤nu % 2:=Int.emod_nonneg _ (18:)
    have a1:nu % 2 < 2:=Int.emod_lt_of_pos _ (18:)
    have b0:0≤nu % 3:=Int.emod_nonneg _ (18:)
    have b1:nu % 3 < 3:=Int.emod_lt_of_pos _ (18:)
    have kl:=Qf hpl (.lst [.int 0,.int (1 + nu % 2),.int (nu % 3)])
    rcases (show r=0∨r=1∨r=2 by lia) with rfl | rfl | rfl
    ·exact ⟨_,rfl,pl,_,_,_,rfl,rfl,SqL.of Qc,rfl,kl,0,by lia,fun _=>rfl,rfl⟩
    ·exact ⟨_,rfl,pl,_,_,.int (1 + nu % 2),rfl,rfl,SqL.of Qc,rfl,kl,(1 + nu % 2).toNat,by lia,fun z=>by lia,by rw [Int.toNat_of_nonneg (11:)];rfl⟩
    ·exact ⟨_,rfl,pl,_,_,.int (nu % 3),rfl,rfl,SqL.of Qc,rfl,kl,(nu % 3).toNat,by lia,fun z=>by lia,by rw [Int.toNat_of_nonneg (11:)];rfl⟩
   rintro σ H5 ⟨g5,wi,hw3,hw0,rfl⟩
   refine ⟨_,rfl,_,rfl,by lia,by lia,fun lb hlb=>?_⟩
   rw [Int.toNat_natCast]
   have hlk5:=g5 _ _ (g4 _ _ (g2 _ _ hlk1))
   refine U6 (lo:=0) (n:=wi) (cs:=[some (.ref lk),some (.int nu)]) (tt:=fun _ H Q=>Q true H) (fun j ys H'=>∃ ss:List Str,ys=ss.map V.str∧ss.length=j∧(∀ x ∈ ss,x ∈ kn)∧H' lb=some (.lst ys)∧Same H5 H')
    ⟨[],rfl,rfl,fun x hx=>(nomatch hx),Qc,Qf hlb _⟩ ?_ ?_
   ·rintro j ys H6 hj ⟨ss,rfl,hsl,hsk,hy,g6⟩
    refine Q8 ⟨_,rfl,_,rfl,_,rfl,nu,_,rfl,by lia,by lia,fun z z0 z1=>⟨_,rfl,lk,_,rfl,.inl (SqL.of (g6 _ _ hlk5)),_,_,rfl,rfl,(by rw [hkm];lia),?_⟩⟩
    obtain ⟨y,hyn,hat⟩:=ZV (xs:=kn.map V.str) (k:=((kn.map V.str).length:Int)) rfl (by rw [hkm];lia) z
    obtain ⟨x,hx,rfl⟩:=List.mem_map.mp hyn
    refine ⟨lk,_,_,_,rfl,rfl,SqL.of (g6 _ _ hlk5),hat,?_⟩
    refine QI hj hy (15:) ⟨ss ++ [x],by simp,by simp [hsl],fun x' hx'=>?_,Qc,fun z u e=>?_⟩
    ·rcases List.mem_append.mp hx' with hx' | hx'
     ·exact hsk x' hx'
     ·have:x'=x:=by simpa using hx'
      rw [this];exact hx
    ·rw [Qj (Qk e hlb)];exact g6 _ _ e
   rintro ys H6 ⟨ss,rfl,hsl,hsk,hy,g6⟩
   have g46:=g5.trans g6
   have g16:=(g1.trans (g2.trans g4)).trans g46
   have hi8:0≤(fi / 16 + (0 + (r:Int))) % 8:=Int.emod_nonneg _ (18:)
   have hi9:(fi / 16 + (0 + (r:Int))) % 8 < 8:=Int.emod_lt_of_pos _ (18:)
   have hnx:((fi / 16 + (0 + (r:Int))) % 8).toNat < ns.length:=by lia
   have hat:atI (ns.map V.str) ((fi / 16 + (0 + (r:Int))) % 8)=some (.str ns[((fi / 16 + (0 + (r:Int))) % 8).toNat]):=by
    have z:=Qy (xs:=ns.map V.str) (j:=((fi / 16 + (0 + (r:Int))) % 8).toNat) (v:=.str ns[((fi / 16 + (0 + (r:Int))) % 8).toNat]) (by rw [List.getElem?_map,List.getElem?_eq_getElem hnx];rfl)
    rw [Int.toNat_of_nonneg hi8] at z
    exact z
   refine ⟨_,rfl,.inl ⟨rfl,_,SqL.of (g46 _ _ hlr4)⟩,_,rfl,_,rfl,_,_,rfl,rfl,(21:),_,rfl,_,_,rfl,rfl,_,_,rfl,rfl,(by show (0:Int) < 8;decide),ln,_,_,_,rfl,rfl,g16.seq hln,hat,_,rfl,lb,_,rfl,.inl ⟨SqL.of hy,fun pb hpb=>⟨(23:),fun pr hpr=>?_⟩⟩⟩
   generalize hnm:ns[((fi / 16 + (0 + (r:Int))) % 8).toNat]=nm
   have e1:=Qf hpb (.tup (ss.map V.str))
   have e2:=Qf hpr (.tup [.str nm,.ref pb])
   have e12:=e1.trans e2
   have hlr7:=e12 _ _ (g46 _ _ hlr4)
   refine ⟨lr,_,_,rfl,rfl,hlr7,by rw [List.length_map,Qz];lia,?_⟩
   refine ⟨_,_,_,_,rs ++ [(pr,nm,pb,ss)],rfl,fun z u e=>?_,by rw [Qc];simp,by rw [List.length_append,List.length_singleton,hrl],fun t ht=>?_,fun j t e=>?_,fun t e=>?_⟩
   ·rw [Qj (Qk e hlr)];exact e12 _ _ (g46 _ _ (g4 _ _ e))
   ·rcases List.mem_append.mp ht with ht | ht
    ·obtain ⟨h1,h2⟩:=hrs t ht
     have h1':=h1.same (g46.trans e12)
     exact ⟨⟨h1'.1.put hlr7,h1'.2.put hlr7⟩,h2⟩
    ·have:t=(pr,nm,pb,ss):=by simpa using ht
     rw [this]
     exact ⟨⟨SqT.put (SqT.of Qc) hlr7,SqT.put (e2.seqT (SqT.of Qc)) hlr7⟩,hsk,by show ss.length≤3;lia⟩
   ·by_cases hj:j < r
    ·rw [List.getElem?_append_left (11:)] at e
     exact hrn j t e
    ·have hjr:j=r:=by
      have:=(List.getElem?_eq_some_iff.mp e).1
      rw [List.length_append,List.length_singleton] at this
      lia
     rw [List.getElem?_append_right (11:),hrl,hjr,Nat.sub_self] at e
     obtain rfl:=Option.some.inj e
     rw [hjr,← hnm,show fi / 16 + (r:Int)=fi / 16 + (0 + (r:Int)) by lia]
     exact List.getElem?_eq_getElem hnx
   ·by_cases hr0':r=0
    ·have hrs0:rs=[]:=List.length_eq_zero_iff.mp (11:)
     rw [hrs0] at e
     obtain rfl:=Option.some.inj e
     have:ss.length=0:=by rw [hsl];exact hw0 hr0'
     exact List.length_eq_zero_iff.mp this
    ·rw [List.getElem?_append_left (11:)] at e
     exact hr0 t e
  rintro σ H4 ⟨c7,c8,c9,c10,rs,rfl,g4,hlr4,hrl,hrs,hrn,hr0⟩
  have hat:atI (kn.map V.str) (0 + (i:Int))=some (.str kn[i]):=by
   rw [Int.zero_add]
   exact Qy (by rw [List.getElem?_map,List.getElem?_eq_getElem hi];rfl)
  have hrnd:(rs.map fun t=>t.2.1).Nodup:=by
   rw [List.Nodup,List.pairwise_iff_getElem]
   intro a b ha hb hab
   rw [List.length_map] at ha hb
   rw [List.getElem_map,List.getElem_map]
   intro e
   have h1:=hrn a rs[a] (List.getElem?_eq_getElem ha)
   have h2:=hrn b rs[b] (List.getElem?_eq_getElem hb)
   rw [e,← h2] at h1
   have hl1:((fi / 16 + (a:Int)) % 8).toNat < ns.length:=by
    have:=Int.emod_lt_of_pos (fi / 16 + (a:Int)) (show (0:Int) < 8 by decide)
    have:=Int.emod_nonneg (fi / 16 + (a:Int)) (show (8:Int)≠0 by decide)
    lia
   have:=(List.getElem?_inj hl1 hnd).mp h1
   lia
  have hlr4':=SqL.of (K:=K) hlr4
  have hrs4:∀ t ∈ rs,SqT K H4 t.1 [.str t.2.1,.ref t.2.2.1]∧SqT K H4 t.2.2.1 (t.2.2.2.map V.str)∧∀ x ∈ t.2.2.2,PyData.strOk x=true:=fun t ht=>⟨(hrs t ht).1.1,(hrs t ht).1.2,fun x hx=>hkok x ((hrs t ht).2.1 x hx)⟩
  have hlw4:=g4 _ _ hlw2
  refine ⟨_,rfl,.inl ⟨rfl,_,SqL.of hlw4⟩,_,rfl,_,rfl,lk,_,_,_,rfl,rfl,SqL.of (g4 _ _ (g2 _ _ hlk1)),hat,_,rfl,lr,rs,rfl,hlr4',hrs4,hrnd,by lia,fun out po hperm hasc hpo=>⟨(23:),fun pk hpk=>?_⟩⟩
  have e1:=Qf hpo (.lst (out.map fun t=>V.ref t.1))
  have e2:=Qf hpk (.tup [.str kn[i],.ref po])
  have e12:=e1.trans e2
  have hlw6:=e12 _ _ hlw4
  have hpow:po≠lw:=fun z=>by rw [z,hlw4] at hpo;cases hpo
  refine ⟨lw,_,_,rfl,rfl,hlw6,by rw [List.length_map,Qz];lia,?_⟩
  have hom:∀ t ∈ out,t ∈ rs:=fun t ht=>hperm.mem_iff.mp ht
  refine ⟨_,_,_,_,_,_,_,ks ++ [(pk,kn[i],po,out)],rfl,fun z u e=>?_,by rw [Qc];simp,fun k hk=>?_,?_⟩
  ·rw [Qj (Qk e hlw)];exact e12 _ _ (g4 _ _ (g2 _ _ e))
  ·rcases List.mem_append.mp hk with hk | hk
   ·exact ⟨KdH.put hlw6 ((hks k hk).1.same (g4.trans e12)),(hks k hk).2⟩
   ·have:k=(pk,kn[i],po,out):=by simpa using hk
    rw [this]
    refine ⟨KdH.put hlw6 ⟨SqT.of Qc,e2 _ _ Qc,hpow,fun t ht=>((hrs t (hom t ht)).1).same e12⟩,⟨⟨?_,?_,fun t ht=>?_,fun t ht x hx=>?_,fun t ht=>?_⟩,?_,fun t ht=>(hrs t (hom t ht)).2.1,fun t ht=>(hrs t (hom t ht)).2.2⟩⟩
    ·exact (hperm.map _).nodup_iff.mpr hrnd
    ·show out.length≤10
     rw [hperm.length_eq];lia
    ·obtain ⟨j,hj,e⟩:=List.getElem_of_mem (hom t ht)
     have:=hrn j t (by rw [List.getElem?_eq_getElem hj,e])
     exact hnok _ (List.mem_of_getElem? this)
    ·exact hkok x ((hrs t (hom t ht)).2.1 x hx)
    ·have:=(hrs t (hom t ht)).2.2
     lia
    ·have h0:0 < rs.length:=by lia
     exact ⟨rs[0],hperm.mem_iff.mpr (List.getElem_mem h0),hr0 rs[0] (List.getElem?_eq_getElem h0)⟩
  ·rw [List.map_append,hkk,List.take_add_one,List.getElem?_eq_getElem hi];rfl
 ·rintro σ H2 ⟨c4,c5,c6,c7,c8,c9,c10,ks,rfl,g2,hlw2,hks,hkk⟩
  rw [List.take_of_length_le (9:)] at hkk
  have hksl:ks.length=kn.length:=by
   have:=congrArg List.length hkk
   rwa [List.length_map] at this
  refine ⟨_,rfl,q lw H2 ks (g1.trans g2) ⟨SqL.of hlw2,fun k hk=>⟨(hks k hk).1.1,SqL.of (hks k hk).1.2.1,(hks k hk).1.2.2.2⟩⟩ ⟨⟨by rw [hkk];exact hknd,by lia,fun k hk=>(hks k hk).2.ok⟩,by lia,by lia,fun k hk=>hkok _ (by rw [← hkk];exact List.mem_map.mpr ⟨k,hk,rfl⟩),fun k hk=>by rw [hkk];exact (hks k hk).2⟩⟩
end
end K61
namespace L2
open PySem
theorem XD {K:PySem.W.Frag} {a b:Addr} {xs ys:List V} {g:TG} {tb:TS} {D:Ends} {σ:St} {H:Hp} (hlen:xs.length=ys.length) (Pv:Nat→St→Hp→Prop) (h0:Pv 0 σ H) (hl:∀ i σ H,i≤xs.length→Pv i σ H→SqT K H a xs∧SqT K H b ys)
 (hs:∀ i u v p σ H,xs[i]?=some u→ys[i]?=some v→H p=none→Pv i σ H→g (.ref p) σ (upd H p (.tup [u,v])) fun σ2 H2=>tb { D with nx:=Pv (i + 1),ct:=Pv (i + 1),bk:=D.nx } σ2 H2) (hd:∀ σ H,Pv xs.length σ H→D.nx σ H) :
 ∃ W:Nat→Nat→St→Hp→Prop,(∃ m,W 0 m σ H)∧∀ i m σ H,W i m σ H →
  ((Gk K a b xs ys).stop i H∧D.nx σ H)∨((Gk K a b xs ys).go i H∧∃ N:St→Hp→Prop,(17:)∧∀ x H',(Gk K a b xs ys).yld i H x H'→g x σ H' fun σ2 H2=>tb { D with nx:=N,ct:=N,bk:=D.nx } σ2 H2):=by
 refine (51:)
 rintro i m σ H ⟨rfl,hi,p⟩
 obtain ⟨qa,qb⟩:=hl i σ H hi p
 by_cases h:i < xs.length
 ·refine .inr ⟨⟨qa,qb,h,by lia⟩,Pv (i + 1),fun σ' H' p'=>⟨xs.length - (i + 1),by lia,rfl,h,p'⟩,?_⟩
  rintro x H' ⟨p',u,v,hp,rfl,rfl,hu,hv⟩
  exact hs i u v p' σ H hu hv hp p
 ·have e:i=xs.length:=by lia
  subst e
  exact .inl ⟨⟨qa,Nat.le_refl _⟩,hd σ H p⟩
end L2
namespace K61
open PySem L2 TM TT K9 K11
def Zy (r:PNx):PyData:=.tuple [.str r.2.1,.tuple (r.2.2.2.map .str)]
theorem JH {K:PySem.W.Frag} {H:Hp}:∀ {rs:List PNx},(∀ t ∈ rs,RowAt K H t)→RdAll K H (rs.map fun t=>V.ref t.1) (rs.map Zy)
 | [],_=>.nil
 | t :: r,h=>.cons (.tup (h t List.mem_cons_self).1 (.cons (.str _) (.cons (.tup (h t List.mem_cons_self).2 (YD _)) .nil))) (JH fun u hu=>h u (47:))
theorem UM:∀ {rs:List PNx},(∀ r ∈ rs,PyData.strOk r.2.1=true)→(∀ r ∈ rs,∀ x ∈ r.2.2.2,PyData.strOk x=true)→PyData.canLayAll0 (rs.map Zy)=true
 | [],_,_=>by simp [PyData.canLayAll0]
 | r :: rs,h1,h2=>by
  simp only [List.map_cons,PyData.canLayAll0,Zy,PyData.canLay0,h1 r List.mem_cons_self,Ye _ (h2 r List.mem_cons_self),Bool.and_self,Bool.true_and]
  exact UM (fun u hu=>h1 u (47:)) fun u hu=>h2 u (47:)
theorem Uy (ds:List PyData):PyData.eqv (.list ds) (.list [])=ds.isEmpty:=by
 cases ds <;> simp [PyData.eqv,PyData.eqvAll]
theorem GF (ds:List PyData):PyData.eqv (.tuple ds) (.tuple [])=ds.isEmpty:=by
 cases ds <;> simp [PyData.eqv,PyData.eqvAll]
def QH (k:KdT):Str × List PNx:=(k.2.1,k.2.2.2)
theorem Uw {hs ks:List KdT} (e:hs.map QH=ks.map QH) (z:Str):rowsK hs z=rowsK ks z:=by
 have aux:∀ l:List KdT,rowsK l z=(((l.map QH).find? fun p=>decide (p.1=z)).map (·.2)).getD []:=fun l=>by
  unfold rowsK
  rw [List.find?_map,Option.map_map]
  rfl
 rw [aux,aux,e]
theorem Ur {hs ks:List KdT} (e:hs.map QH=ks.map QH):rowK hs=rowK ks:=by
 funext k n
 unfold rowK
 rw [Uw e]
theorem WoodOk.of {hs ks:List KdT} (h:WoodOk ks) (e:hs.map QH=ks.map QH):WoodOk hs:=by
 have e1:(hs.map fun k=>k.2.1)=ks.map fun k=>k.2.1:=by
  have:=congrArg (List.map Prod.fst) e
  rw [List.map_map,List.map_map] at this
  exact this
 refine ⟨by rw [e1];exact h.nd,?_,fun k hk=>?_⟩
 ·have:=congrArg List.length e
  rw [List.length_map,List.length_map] at this
  rw [this];exact h.len
 ·have hm:QH k ∈ ks.map QH:=by rw [← e];exact List.mem_map.mpr ⟨k,hk,rfl⟩
  obtain ⟨k',hk',e'⟩:=List.mem_map.mp hm
  have:k'.2.2.2=k.2.2.2:=congrArg (fun p:Str × List PNx=>p.2) e'
  rw [← this]
  exact h.rows k' hk'
def ZO (p:Str × List PNx):PyData:=.tuple [.str p.1,.list (p.2.map Zy)]
theorem YM {K:PySem.W.Frag} {H:Hp}:∀ {ks:List KdT},(∀ k ∈ ks,SqT K H k.1 [.str k.2.1,.ref k.2.2.1]∧RowsL K H k.2.2.1 k.2.2.2)→RdAll K H (52:) ((ks.map QH).map ZO)
 | [],_=>.nil
 | k :: r,h=>.cons (.tup (h k List.mem_cons_self).1 (.cons (.str _) (.cons (.lst (h k List.mem_cons_self).2.1 (JH (h k List.mem_cons_self).2.2)) .nil))) (YM fun u hu=>h u (47:))
theorem Jr:∀ {ks:List KdT},(∀ k ∈ ks,PyData.strOk k.2.1=true)→(∀ k ∈ ks,RowsOk k.2.2.2)→PyData.canLayAll0 ((ks.map QH).map ZO)=true
 | [],_,_=>by simp [PyData.canLayAll0]
 | k :: r,h1,h2=>by
  have h3:PyData.canLayAll0 (k.2.2.2.map Zy)=true:=UM (h2 k List.mem_cons_self).nm (h2 k List.mem_cons_self).kn
  simp only [List.map_cons,PyData.canLayAll0,ZO,QH,PyData.canLay0,h1 k List.mem_cons_self,h3,Bool.and_self,Bool.true_and]
  exact Jr (fun u hu=>h1 u (47:)) fun u hu=>h2 u (47:)
theorem U7:∀ rs:List PNx,PyData.depthAll (rs.map Zy)≤2
 | []=>by simp [PyData.depthAll]
 | r :: rs=>by
  have:=U7 rs
  simp only [List.map_cons,PyData.depthAll,Zy,PyData.depth,Yy]
  lia
theorem Y8:∀ ks:List (Str × List PNx),PyData.depthAll (ks.map ZO)≤4
 | []=>by simp [PyData.depthAll]
 | k :: r=>by
  have h1:=Y8 r
  have h2:=U7 k.2
  simp only [List.map_cons,PyData.depthAll,ZO,PyData.depth]
  lia
abbrev wts (ks:List KdT):List (Addr × Str × V):=ks.map fun k=>(k.1,k.2.1,V.ref k.2.2.1)
abbrev wkv (ks:List KdT):List (Key × V):=(wts ks).map fun t=>(54:)
section
variable {K:PySem.W.Frag} {H:Hp} {wd:Addr} {ks:List KdT}
theorem wdA (hW:WoodAt K H wd ks):SqL K H wd ((wts ks).map fun t=>V.ref t.1):=by rw [List.map_map];exact hW.1
theorem wdB (hW:WoodAt K H wd ks):∀ t ∈ wts ks,SqT K H t.1 [.str t.2.1,t.2.2]:=fun t ht=>by
 obtain ⟨k,hk,rfl⟩:=List.mem_map.mp ht
 exact (hW.2 k hk).1
theorem wdC (hO:WoodOk ks):((wts ks).map fun t=>t.2.1).Nodup:=by rw [List.map_map];exact hO.nd
theorem wdD (hO:WoodOk ks):(wts ks).length≤1000:=by rw [List.length_map];have:=hO.len;lia
end
theorem Nz {H:Hp} {d:Addr} {ks:List KdT} {kind:Str} (h:H d=some (.dK (wkv ks))):DGet H d (.str kind) ((ks.find? fun k=>decide (k.2.1=kind)).map fun k=>V.ref k.2.2.1):=by
 have hdg:=DGet.k (k:=Sum.inr kind) h
 have e:ZJ (wkv ks) (Sum.inr kind)=(ks.find? fun k=>decide (k.2.1=kind)).map fun k=>V.ref k.2.2.1:=by
  unfold wkv wts
  rw [List.map_map]
  exact YL (fun k:KdT=>k.2.1) (fun k=>V.ref k.2.2.1) kind ks
 rw [e] at hdg
 exact hdg
theorem UB {H:Hp} {d:Addr} {ks:List KdT} {kind:Str} {k:KdT} (h:H d=some (.dK (wkv ks))) (e:ks.find? (fun k=>decide (k.2.1=kind))=some k):DGet H d (.str kind) (some (.ref k.2.2.1)):=by
 have z:=Nz (kind:=kind) h
 rw [e] at z
 exact z
def Ub (K:PySem.W.Frag):Sp:=fun vs H Q _=>∃ (w:Addr) (kind name:Str) (ks:List KdT),vs=[.ref w,.str kind,.str name]∧WoodAt K H w ks∧WoodOk ks∧(∃ k ∈ ks,k.2.1=kind)∧∀ (v:V) (H':Hp),Same H H'→Oj K H' v (rowK ks kind name)→Q v H'
def Yn (K:PySem.W.Frag):Sp:=fun vs H Q _=>∃ (w lb:Addr) (kind nm:Str) (z:V) (L:Int) (ks:List KdT),vs=[.ref w,.str kind,.ref lb]∧WoodAt K H w ks∧WoodOk ks∧(∃ k ∈ ks,k.2.1=kind)∧SqT K H lb [.str nm,z,.int L] ∧
 ∀ (b:Bool) (H':Hp),Same H H'→(b=true ↔ ∃ ss,rowK ks kind nm=some ss∧(ss.length:Int)=L)→Q (.bl b) H'
abbrev Ak:=Option (Int × Int × Str)
def QG (f:RK) (n:Nat) (t:Tm) (k:Str):List Ak:=(its f n t k []).map (·.2)
theorem W7 (f:RK):∀ (n:Nat) (t:Tm) (k:Str) (p:List Int),(its f n t k p).map (·.2)=QG f n t k
 | 0,_,_,_=>rfl
 | n + 1,t,k,p=>by
  have ih:=W7 f n
  unfold QG
  rw [its,its]
  cases lab t with
  | call m b=>rfl
  | put nm kp ad =>
   dsimp only
   cases f k nm with
   | none=>rfl
   | some ss =>
    dsimp only
    by_cases e:ss.length=t.bs.length
    ·rw [if_pos e,if_pos e,List.map_flatMap,List.map_flatMap]
     congr 1
     funext q
     rw [ih,ih]
    ·rw [if_neg e,if_neg e];rfl
theorem XB {f:RK} {n:Nat} {t:Tm} {k nm:Str} {kp:Bool} {ad:Int} {ss:List Str} (el:lab t=.put nm kp ad) (er:f k nm=some ss) (e:ss.length=t.bs.length):QG f (n + 1) t k=(t.bs.zip ss).flatMap fun q=>QG f n q.1 q.2:=by
 unfold QG
 rw [its,el]
 dsimp only
 rw [er]
 dsimp only
 rw [if_pos e,List.map_flatMap]
 have:(fun q:(Tm × Str) × Nat=>List.map (fun x=>x.snd) (its f n q.1.1 q.1.2 ([] ++ [(q.2:Int)])))=(fun q:Tm × Str=>QG f n q.1 q.2) ∘ Prod.fst:=by
  funext q
  exact W7 f n _ _ _
 have h2:((t.bs.zip ss).zipIdx.map Prod.fst).flatMap (fun q=>QG f n q.1 q.2)=(t.bs.zip ss).zipIdx.flatMap ((fun q=>QG f n q.1 q.2) ∘ Prod.fst):=by rw [List.flatMap_map];rfl
 rw [this,← h2,List.zipIdx_map_fst]
 rfl
theorem Xh {f:RK} {n:Nat} {t:Tm} {k nm:Str} {kp:Bool} {ad:Int} (el:lab t=.put nm kp ad) (e:¬ ∃ ss,f k nm=some ss∧ss.length=t.bs.length):QG f (n + 1) t k=[none]:=by
 unfold QG
 rw [its,el]
 dsimp only
 cases er:f k nm with
 | none=>rfl
 | some ss =>
  dsimp only
  rw [if_neg fun z=>e ⟨ss,er,z⟩];rfl
def AkV (K:PySem.W.Frag) (H:Hp) (v:V):Ak→Prop
 | none=>v=.non
 | some c=>∃ a,v=.ref a∧SqT K H a [.int c.1,.int c.2.1,.str c.2.2]
theorem AkV.mono {K:PySem.W.Frag} {H H':Hp} {v:V} (k:∀ a xs,SqT K H a xs→SqT K H' a xs):∀ {o:Ak},AkV K H v o→AkV K H' v o
 | none,h=>h
 | some c,⟨a,e,h⟩=>⟨a,e,k _ _ h⟩
def AkL (K:PySem.W.Frag) (H:Hp) (l:List (V × Ak)) (as:List Ak):Prop:=l.map (·.2)=as∧∀ q ∈ l,AkV K H q.1 q.2
theorem AkL.mono {K:PySem.W.Frag} {H H':Hp} {l:List (V × Ak)} {as:List Ak} (k:∀ a xs,SqT K H a xs→SqT K H' a xs) (h:AkL K H l as):AkL K H' l as:=⟨h.1,fun q hq=>(h.2 q hq).mono k⟩
def Z7 (K:PySem.W.Frag) (n:Nat):Sp:=fun vs H Q _=>∃ (nm:Nat) (lw:Addr) (v:V) (kind:Str) (ks:List KdT) (t:Tm),vs=[.ref lw,v,.str kind]∧WoodAt K H lw ks∧WG ks∧TmV K H v t∧TmB nm n t∧n≤3∧(∃ k ∈ ks,k.2.1=kind) ∧
 ∀ (la:Addr) (H':Hp) (l:List (V × Ak)),Same H H'→H la=none→H' la=some (.lst (l.map (·.1)))→AkL K H' l (QG (46:) n t kind)→l.length≤100 ^ n→Q (.ref la) H'
section
variable {P:Program} {w:World} {K:PySem.W.Frag} {mg:Str→Option Value} {base:Heap} {f:Addr} {fd:FuncData}
theorem MR:FnScope ["_law_wood_here", "_law_kind", "_law_name", "_law_row_here"] ["_law_wood_here", "_law_kind", "_law_name"] (defScope NE):=(1:)
theorem NL (F:Fun K "_law_row" "_law_row" NE f fd) (G:Gm mg):FnOk P w K mg base CX0 1 f fd ["_law_wood_here", "_law_kind", "_law_name"] (Ub K):=by
 refine F.ok MR (8:) (4:)
 ·obtain ⟨w,kind,name,ks,rfl,_⟩:=h
  rfl
 obtain ⟨lw,kind,name,ks,rfl,hW,hO,hkind,q⟩:=h
 obtain ⟨kd,hkf,erow,hkm⟩:=QV hkind
 refine ⟨_,(Qe (QL PassesOwn.never rfl (QO (Zg (Ze hr) (QE (QZ rfl) rfl G.dct PyProof.Rows.boot_dict (Qa (pv 0) Qd)) (pv 1) (3:))) (Qq (i:=3) MR.nd rfl (7:))
  (Qh (QF (Qp Q1 (Qi Qg (pv 3) Qb (3:)) (pv 2) (Qt _)) (Qh (Qo (Qi Qg (pv 3) Qb (3:)))) Qu)))
  (Qh (Qo Q5))),?_⟩
 refine ⟨_,rfl,lw,wts ks,rfl,wdA hW,wdB hW,wdC hO,wdD hO,fun dd hdd=>⟨_,rfl,dd,.ref kd.2.2.1,rfl,UB Qc hkf,?_⟩⟩
 have g1:=Qf hdd (.dK (wkv ks))
 generalize upd H dd (.dK (wkv ks))=H1 at g1
 have hR:=((hW.same g1).2 kd hkm).2
 unfold rowK at q
 rw [erow] at q
 refine ⟨kd.2.2.1,rfl,⟨_,hR.1⟩,?_⟩
 refine Yf (K:=K) (xs:=kd.2.2.2.map fun t=>V.ref t.1) (fun i σ H'=>∃ c3:Option V,σ=[some (.ref lw),some (.str kind),some (.str name),c3]∧H'=H1∧kd.2.2.2.find? (fun r=>decide (r.2.1=name))=(kd.2.2.2.drop i).find? (fun r=>decide (r.2.1=name))) ⟨none,rfl,rfl,rfl⟩ ?_ ?_ ?_
 ·rintro i σ H' _ ⟨c3,_,rfl,_⟩
  exact hR.1
 ·rintro i x σ H' hx ⟨c3,rfl,rfl,hf⟩
  have hi:i < kd.2.2.2.length:=by
   have:=(List.getElem?_eq_some_iff.mp hx).1
   rwa [List.length_map] at this
  obtain rfl:x=.ref kd.2.2.2[i].1:=by
   rw [List.getElem?_map,List.getElem?_eq_getElem hi] at hx
   exact (Option.some.inj hx).symm
  obtain ⟨hr1,hr2⟩:=hR.2 _ (List.getElem_mem hi)
  rw [List.drop_eq_getElem_cons hi,List.find?_cons] at hf
  refine ⟨_,rfl,_,_,0,_,rfl,rfl,hr1,rfl,_,rfl,rfl,_,rfl,?_⟩
  by_cases he:kd.2.2.2[i].2.1=name
  ·rw [decide_eq_true he] at hf
   rw [hf] at q
   refine Yr (by rw [he]) ⟨_,rfl,_,_,1,_,rfl,rfl,hr1,rfl,q _ _ g1 ⟨_,rfl,hr2⟩⟩
  ·rw [decide_eq_false he] at hf
   exact ZP (fun z=>he (by injection z)) ⟨_,rfl,rfl,hf⟩
 ·rintro σ H' ⟨c3,rfl,rfl,hf⟩
  rw [List.length_map,List.drop_length] at hf
  rw [hf] at q
  exact q .non _ g1 rfl
theorem Gh:FnScope ["_law_wood_here", "_law_kind", "_law_label_here", "_law_row_here"] ["_law_wood_here", "_law_kind", "_law_label_here"] (defScope Gr):=(1:)
theorem LJ (F:Fun K "_law_fits" "_law_fits" Gr f fd) (G:Gm mg) (RR:Fn P w K mg base 1 "_law_row" ["_law_wood_here", "_law_kind", "_law_name"] (Ub K)):FnOk P w K mg base CX0 2 f fd ["_law_wood_here", "_law_kind", "_law_label_here"] (Yn K):=by
 refine F.ok Gh (8:) (4:)
 ·obtain ⟨w,lb,kind,nm,z,L,ks,rfl,_⟩:=h
  rfl
 obtain ⟨lw,lb,kind,nm,z,L,ks,rfl,hW,hO,hkind,hlb,q⟩:=h
 refine ⟨_,(Qe (Ql (i:=3) Gh.nd rfl (7:) (Qs RR hr (Qa (pv 0) (Qa (pv 1) (Qa (31:) Qd)))))
  (Qh (Qo (UI (Z1 Uj (pv 3) Q5 (Qt _)) (UV (Z1 Q1 (Qr Qn rfl G.len PySem.boot_len (Qa (pv 3) Qd)) (31:) (Qt _))))))),?_⟩
 refine ⟨_,rfl,_,rfl,_,rfl,lb,_,0,_,rfl,rfl,hlb,rfl,lw,kind,nm,ks,rfl,hW,hO,hkind,fun v H1 g1 hv=>?_⟩
 cases e:rowK ks kind nm with
 | none =>
  rw [e] at hv q
  cases (show v=.non from hv)
  exact ⟨_,rfl,rfl,_,rfl,Q3 (q false H1 g1 ⟨fun z=>(nomatch z),fun ⟨ss,z,_⟩=>(nomatch z)⟩)⟩
 | some ss =>
  rw [e] at hv q
  obtain ⟨b,rfl,hb⟩:=hv
  refine ⟨_,rfl,rfl,_,rfl,Q8 ⟨_,rfl,b,_,rfl,.inr hb,_,rfl,lb,_,2,_,rfl,rfl,g1.seqT hlb,rfl,rfl,?_⟩⟩
  refine q _ H1 g1 ?_
  rw [decide_eq_true_eq,List.length_map]
  constructor
  ·intro z
   exact ⟨ss,rfl,by injection z⟩
  ·rintro ⟨ss',z,h2⟩
   obtain rfl:=Option.some.inj z
   rw [h2]
theorem JS:FnScope ["_law_wood_here", "_law_term", "_law_kind", "_law_found", "_law_branch_here", "_law_part"] ["_law_wood_here", "_law_term", "_law_kind"] (defScope Xo):=(1:)
theorem Mm {n:Nat} (F:Fun K "_law_asks" "_law_asks" Xo f fd) (G:Gm mg) (RR:Fn P w K mg base 1 "_law_row" ["_law_wood_here", "_law_kind", "_law_name"] (Ub K)) (RF:Fn P w K mg base 2 "_law_fits" ["_law_wood_here", "_law_kind", "_law_label_here"] (Yn K)) (R:Fn P w K mg base (n + 2) "_law_asks" ["_law_wood_here", "_law_term", "_law_kind"] (Z7 K n)):FnOk P w K mg base CX0 (n + 3) f fd ["_law_wood_here", "_law_term", "_law_kind"] (Z7 K (n + 1)):=by
 refine F.ok JS (8:) (4:)
 ·obtain ⟨nm,lw,v,kind,ks,t,rfl,_⟩:=h
  rfl
 obtain ⟨nm,lw,v,kind,ks,t,rfl,hW,hWG,hv,hB,hn3,hkind,q⟩:=h
 refine ⟨_,(Qe (QF (Qp Q1 (25:) Zx (Qt _)) (Qh (Qo (QM (Qa ((Qv (Qa (25:) (Qa (25:) (Qa (pv 2) Qd))))) Qd)))) Qu)
  (Qe (QF (Zf (Q0 (Qs RF hr (Qa (pv 0) (Qa (pv 2) (Qa ((Qv (Qa (25:) (Qa (Qb) (Qa (Qr Qn rfl G.len PySem.boot_len (Qa (25:) Qd)) Qd))))) Qd))) (11:)))) (Qh (Qo (QM (Qa (Q5) Qd)))) Qu)
  (Qe (Ql (i:=3) JS.nd rfl (7:) (QM Qd))
  (Qe (QL PassesOwn.never rfl (WV rfl G.zip (Qa (Qs RR hr (Qa (pv 0) (Qa (pv 2) (Qa (25:) Qd))) (11:)) (Qa (25:) Qd))) (Zb rfl (Qw (Qq (i:=4) JS.nd rfl (7:)) (Qw (Qq (i:=5) JS.nd rfl (7:)) QX)))
   (Qh (QJ (Zo PySem.F.plainAttrs_list PySem.F.slot_list_extend PySem.F.type_list_extend Jh (pv 3) (Qa (Qs R hr (Qa (pv 0) (Qa (pv 5) (Qa (pv 4) Qd))) (11:)) Qd)))))
  (Qh (Qo (pv 3))))))),?_⟩
 obtain ⟨hB1,hB2,hB3⟩:=hB
 rcases Yk hv with ⟨a,mo,b,rfl,rfl,h1⟩ | ⟨a,b,bs,nm',k',ad',rfl,et,h1,h2,h3,h4⟩
 ·refine ⟨_,rfl,a,_,0,_,rfl,rfl,h1,rfl,rfl,_,rfl,Yr rfl ?_⟩
  refine ⟨_,rfl,a,_,1,_,rfl,rfl,h1,rfl,_,rfl,a,_,2,_,rfl,rfl,h1,rfl,_,rfl,(20:),fun p hp=>⟨(35:),fun la hla=>?_⟩⟩
  have g1:=Qf hp (.tup [.int mo,.int b,.str kind])
  have g2:=Qf hla (.lst [.ref p])
  have hla0:H la=none:=by
   cases e:H la with
   | none=>rfl
   | some u=>rw [g1 _ _ e] at hla;cases hla
  exact q la _ [(.ref p,some (mo,b,kind))] (g1.trans g2) hla0 Qc ⟨rfl,fun x hx=>by
   obtain rfl:x=(.ref p,some (mo,b,kind)):=by simpa using hx
   exact ⟨p,rfl,g2.seqT (SqT.of Qc)⟩⟩ (Nat.one_le_pow _ _ (18:))
 have enl:lab t=.put nm' k' ad':=by rw [et];rfl
 have hlen:=h3.length
 refine ⟨_,rfl,a,_,0,_,rfl,rfl,h1,rfl,rfl,_,rfl,ZP (0:) ?_⟩
 refine ⟨_,rfl,_,rfl,_,rfl,a,_,1,_,rfl,rfl,h1,rfl,_,rfl,a,_,4,_,rfl,rfl,h1,rfl,b,_,rfl,.inr h2,(20:),fun lb hlb=>?_⟩
 have g1:=Qf hlb (.tup [.str nm',.int 0,.int (bs.length:Int)])
 refine ⟨lw,lb,kind,nm',_,_,ks,rfl,hW.same g1,hWG.ok,hkind,SqT.of Qc,fun bb H1 g2 hbb=>?_⟩
 have g12:=g1.trans g2
 refine ⟨_,rfl,?_⟩
 cases bb with
 | false =>
  have hno:¬ ∃ ss,rowK ks kind nm'=some ss∧ss.length=t.bs.length:=fun ⟨ss,z1,z2⟩=>(nomatch hbb.mpr ⟨ss,z1,by lia⟩)
  refine Q8 ⟨(35:),fun la hla=>?_⟩
  have g3:=Qf hla (.lst [.non])
  have hla0:H la=none:=by
   cases e:H la with
   | none=>rfl
   | some u=>rw [g12 _ _ e] at hla;cases hla
  refine q la _ [(.non,none)] (g12.trans g3) hla0 Qc ⟨?_,fun x hx=>?_⟩ (Nat.one_le_pow _ _ (18:))
  ·rw [Xh enl hno];rfl
  ·obtain rfl:x=(.non,none):=by simpa using hx
   exact rfl
 | true =>
  obtain ⟨ss,er,el⟩:=hbb.mp rfl
  have el:ss.length=t.bs.length:=by lia
  refine Q3 ⟨(16:),fun la hla=>?_⟩
  have g3:=Qf hla (.lst [])
  have hla0:H la=none:=by
   cases e:H la with
   | none=>rfl
   | some u=>rw [g12 _ _ e] at hla;cases hla
  have g13:=g12.trans g3
  refine ⟨_,rfl,_,rfl,_,rfl,a,_,1,_,rfl,rfl,g13.seqT h1,rfl,lw,kind,nm',ks,rfl,hW.same g13,hWG.ok,hkind,fun v4 H4 g4 hv4=>?_⟩
  rw [er] at hv4
  obtain ⟨kk,rfl,hkk⟩:=hv4
  have g14:=g13.trans g4
  refine ⟨_,rfl,a,_,4,_,rfl,rfl,g14.seqT h1,rfl,kk,b,_,_,rfl,hkk,g14.seqT h2,?_⟩
  rw [XB enl er el] at q
  refine XD (K:=K) (xs:=ss.map V.str) (ys:=bs) (15:) (fun i σ H'=>∃ (c4 c5:Option V) (l:List (V × Ak)),σ=[some (.ref lw),some (.ref a),some (.str kind),some (.ref la),c4,c5]∧Same H H'∧SqT K H' kk (ss.map V.str)∧H' la=some (.lst (l.map (·.1)))∧AkL K H' l (((t.bs.zip ss).take i).flatMap fun q=>QG (46:) n q.1 q.2)∧l.length≤i * 100 ^ n)
   ⟨none,none,[],rfl,g14,hkk,g4 _ _ Qc,⟨rfl,fun x hx=>(nomatch hx)⟩,Nat.zero_le _⟩ ?_ ?_ ?_
  ·rintro i σ H' _ ⟨c4,c5,l,_,g,hk,_⟩
   exact ⟨hk,g.seqT h2⟩
  ·rintro i u v p σ H' hu hvv hp ⟨c4,c5,l,rfl,g,hk,hl,hA,hll⟩
   have his:i < ss.length:=by
    have:=(List.getElem?_eq_some_iff.mp hu).1
    rwa [List.length_map] at this
   have hit:i < t.bs.length:=by lia
   obtain rfl:u=.str ss[i]:=by
    rw [List.getElem?_map,List.getElem?_eq_getElem his] at hu
    exact (Option.some.inj hu).symm
   obtain ⟨cv,hcv,hct⟩:=h3.get (List.getElem?_eq_getElem hit)
   obtain rfl:cv=v:=Option.some.inj (hcv.symm.trans hvv)
   have ez:(t.bs.zip ss)[i]?=some (t.bs[i],ss[i]):=by
    rw [List.getElem?_eq_getElem (by rw [List.length_zip];lia),List.getElem_zip]
   have gp:=Qf hp (.tup [.str ss[i],cv])
   have gpp:=g.trans gp
   refine ⟨p,_,rfl,SqT.of Qc,rfl,_,_,rfl,_,_,rfl,rfl,?_⟩
   refine ⟨_,rfl,.inl ⟨rfl,_,SqL.of (gp _ _ hl)⟩,_,rfl,_,rfl,_,rfl,nm,lw,cv,ss[i],ks,t.bs[i],rfl,hW.same gpp,hWG,hct.mono fun _ _=>gpp.seqT,hB3 _ (List.getElem_mem hit),by lia,Yc hWG er (List.getElem_mem his),fun lb2 H5 l2 g5 hn5 hl5 hA5 hll5=>?_⟩
   have hl6:=g5 _ _ (gp _ _ hl)
   have h100:100 ^ n≤10000:=by
    have:100 ^ n≤100 ^ 2:=Nat.pow_le_pow_right (18:) (11:)
    lia
   have hi100:i < 100:=by lia
   have hb1:i * 100 ^ n≤100 * 10000:=Nat.mul_le_mul (11:) h100
   refine ⟨la,lb2,_,_,rfl,rfl,hl6,hl5,(by rw [List.length_map,List.length_map,Qz];lia),?_⟩
   have kp:∀ a xs,SqT K H5 a xs→SqT K (upd H5 la (.lst (l.map (·.1) ++ l2.map (·.1)))) a xs:=fun a xs h=>h.put hl6
   refine ⟨_,_,l ++ l2,rfl,fun b o e=>?_,kp _ _ (g5.seqT (gp.seqT hk)),by rw [Qc,List.map_append],⟨?_,fun x hx=>?_⟩,?_⟩
   ·rw [Qj (Qk e hla0)]
    exact g5 _ _ (gpp _ _ e)
   ·rw [List.map_append,hA.1,hA5.1,List.take_add_one,ez,List.flatMap_append]
    simp
   ·rcases List.mem_append.mp hx with z | z
    ·exact (hA.2 x z).mono fun a xs h=>kp a xs (g5.seqT (gp.seqT h))
    ·exact (hA5.2 x z).mono kp
   ·rw [List.length_append,Nat.succ_mul];lia
  ·rintro σ H' ⟨c4,c5,l,rfl,g,hk,hl,hA,hll⟩
   have et2:(t.bs.zip ss).take (ss.map V.str).length=t.bs.zip ss:=List.take_of_length_le (by rw [List.length_zip,List.length_map];lia)
   rw [et2] at hA
   refine ⟨_,rfl,q la H' l g hla0 hl hA (Nat.le_trans hll ?_)⟩
   rw [List.length_map,Nat.pow_succ,Nat.mul_comm]
   exact Nat.mul_le_mul_left _ (11:)
theorem VP {k:Nat}:FnOk P w K mg base CX0 k f fd ["_law_wood_here", "_law_term", "_law_kind"] (Z7 K 0):=by
 have no:∀ vs H Q E,¬ Z7 K 0 vs H Q E:=fun vs H Q E h=>by
  obtain ⟨nm,lw,v,kind,ks,t,_,_,_,_,h0,_⟩:=h
  exact h0
 exact (29:)
theorem XG (F:Fun K "_law_asks" "_law_asks" Xo f fd) (G:Gm mg) (RR:Fn P w K mg base 1 "_law_row" ["_law_wood_here", "_law_kind", "_law_name"] (Ub K)) (RF:Fn P w K mg base 2 "_law_fits" ["_law_wood_here", "_law_kind", "_law_label_here"] (Yn K)) (hb:Binds K fd ["_law_wood_here", "_law_term", "_law_kind"] []) (hm:mg "_law_asks" = some (.ref f)):∀ n:Nat,FnOk P w K mg base CX0 (n + 2) f fd ["_law_wood_here", "_law_term", "_law_kind"] (Z7 K n)
 | 0=>VP
 | n + 1=>Mm F G RR RF ⟨f,fd,XG F G RR RF hb hm n,hb,F.kp,hm⟩
end
end K61
namespace L2
open PySem PySem.Spec PyProof.Rows
section
variable {X:Cx}
def Om:Value→Bool
 | .none=>true
 | _=>false
theorem Lw (hu:X.A.units + 1 < cLine):OpR X (compareOp .In) (fun x y H Q=>∃ (l:Addr) (vs:List V),x=.non∧y=.ref l∧SqL X.K H l vs∧(∀ v ∈ vs,v=.non∨∃ a xs,v=.ref a∧SqT X.K H a xs)∧∀ b:Bool,(b=true ↔ V.non ∈ vs)→Q (.bl b) H):=by
 intro pins s σ H x y v u Q I rx ry h
 obtain ⟨l,vs,rfl,rfl,hl,hv,q⟩:=h
 obtain rfl:v=Value.none:=rx
 obtain rfl:u=Value.ref l:=ry
 obtain ⟨its,rv,p,hz⟩:=I.list hl
 have back:∀ (i:Nat) (y:Value),its[i]?=some y→∃ x,vs[i]?=some x∧RelV x y:=fun i y hy=>by
  have hi:i < its.length:=(List.getElem?_eq_some_iff.mp hy).1
  have hiv:i < vs.length:=by rw [rv.length];exact hi
  obtain ⟨u,h1,h2⟩:=rv.get (List.getElem?_eq_getElem hiv)
  rw [hy] at h1
  obtain rfl:=Option.some.inj h1
  exact ⟨_,List.getElem?_eq_getElem hiv,h2⟩
 refine SeqAt.in_listAt Om p.isList (fun y hy=>?_) ⟨.bl _,H,I,rfl,q _ ?_⟩
 ·have hy':y ∈ its:=by simpa using hy
  obtain ⟨i,hi,ei⟩:=List.getElem_of_mem hy'
  obtain ⟨x,hx,rx⟩:=back i y (by rw [List.getElem?_eq_getElem hi,ei])
  rcases hv x (List.mem_of_getElem? hx) with rfl | ⟨a,xs,rfl,ha⟩
  ·obtain rfl:y=Value.none:=rx
   exact SeqAt.EqAt.same _
  ·obtain rfl:y=Value.ref a:=rx
   obtain ⟨its2,_,p2,_⟩:=I.tuple ha
   exact SeqAt.EqAt.tuple_none (show s.heap.IsTuple a its2.toArray from p2) hu
 ·rw [List.any_toArray,List.any_eq_true]
  constructor
  ·rintro ⟨y,hy,e⟩
   obtain ⟨i,hi,ei⟩:=List.getElem_of_mem hy
   obtain ⟨x,hx,rx⟩:=back i y (by rw [List.getElem?_eq_getElem hi,ei])
   have hxm:=List.mem_of_getElem? hx
   rcases hv x hxm with rfl | ⟨a,xs,rfl,ha⟩
   ·exact hxm
   ·obtain rfl:y=Value.ref a:=rx
    cases e
  ·intro hm
   obtain ⟨i,hi,ei⟩:=List.getElem_of_mem hm
   obtain ⟨y,hy,ry⟩:=rv.get (i:=i) (x:=.non) (by rw [List.getElem?_eq_getElem hi,ei])
   obtain rfl:y=Value.none:=ry
   exact ⟨_,List.mem_of_getElem? hy,rfl⟩
end
end L2
namespace L2
open PySem PySem.Spec PyProof.Rows
section
variable {X:Cx}
end
section
variable {X:Cx} {pins:List (10:)} {σ:St} {H:Hp} {s:Shared}
end
section
variable {X:Cx}
end
section
variable {X:Cx} {tg e:Expr} {te:TE}
end
end L2
namespace L2
namespace LD
open PySem PySem.Spec PyProof.Rows PySem.W
def DEnt (h:Heap) (d:Addr) (ents:Array DictEntry) (ep:Nat):Prop:=∃ o,h.get? d=some o∧o.ExactDict∧o.data=.dict ents ep
section
variable {prog:Program} {w:World} {A:Around} {E:Value→Shared→Prop} {s:Shared} {d it:Addr} {ents:Array DictEntry} {ep i:Nat}
theorem DEnt.ty (x:DEnt s.heap d ents ep):s.TypeIs (.ref d) "dict" := by
 obtain ⟨o,g,e,_⟩:=x
 exact ⟨o,g,e.1⟩
theorem VA {Q:Value→Shared→Prop} (lo:(d == sysModules)=false) (x:DEnt s.heap d ents ep)
 (fin:Q (.ref s.heap.objs.size) { s with heap:=s.heap.push { cls:=.type "dict_keyiterator", data:=.fields #[.ref d,.int 0 0,.int ents.size 0,.int ep 0] } }):wpAny (26:) A (pyIter (.ref d)) Q E s:=by
 have ty:=x.ty
 obtain ⟨o,g,ex,dat⟩:=x
 refine wpAny_pyIter_slot ty F.slot_dict_iter (wpAny_call_entry F.slot_dict_iter ty F.entry_dict_iter ?_ (F.args_dict_iter_1 _))
 unfold Builtin.«dict.__iter__» Builtin.Dict.dictSlotNone
 refine wpAny_bind (wpAny_bind (wpAny_notOrdered_dict ty (show wpAny _ _ (pure (Value.ref d)) _ _ s from wpAny_pure ?_)))
 show wpAny _ _ (Builtin.Dict.showsAll d >>= _) _ _ s
 unfold Builtin.Dict.showsAll
 rw [if_neg (by rw [lo];exact Bool.false_ne_true)]
 refine wpAny_bind (wpAny_pure (wpAny_bind (wpAny_dictEntries g dat (wpAny_bind (wpAny_dictEpoch g dat ?_)))))
 refine wpAny_bind (wpAny_newObj_type (wpAny_pure ⟨_,rfl, "dict_keyiterator", _,⟨_,Heap.get?_push_size _ rfl,rfl⟩,F.slot_dict_keyiterator_next.lookup,?_⟩))
 simpa [rawInt] using fin
theorem Vx {t:DictEntry} {Q:Option Value→Shared→Prop} (hI:s.heap.IsKeyIter it d i ents.size ep) (x:DEnt s.heap d ents ep) (at_i:ents[i]?=some t)
 (fin:∀ h2,h2.IsKeyIter it d (i + 1) ents.size ep→Heap.SameBut it s.heap h2→Q (some t.key) { s with heap:=h2 }):wpAny (26:) A (pyNext (.ref it)) Q E s:=by
 obtain ⟨oi,gi,ci,di⟩:=id hI
 obtain ⟨od,gd,exd,dat⟩:=id x
 unfold pyNext
 refine wpAny_bind (wpAny_attempt (wpAny_callSpecial?_slot (name:=Str.ofString "__next__") hI.typeIs F.slot_dict_keyiterator_next (wpAny_call_entry F.slot_dict_keyiterator_next hI.typeIs F.entry_dict_keyiterator_next ?_ (F.args_dict_keyiterator_next_1 _))))
 refine wpAny_bind (wpAny_pure (wpAny_bind (wpAny_bind ?_)))
 first | refine wpAny_bind (wpAny_typeNameOfWhole_keyiter hI.typeIs (wpAny_pure ?_)) | refine wpAny_bind (wpAny_typeNameOf_keyiter hI.typeIs (wpAny_pure ?_))
 refine wpAny_bind (wpAny_fieldsOf gi di ?_)
 have own0:Builtin.Dict_items.ownsTuple "dict_keyiterator" = false:=by decide
 simp only [own0,Bool.false_eq_true,if_false]
 show wpAny _ _ (if (Value.ref d == Value.none)=true then _ else _) _ _ s
 rw [if_neg (show ¬ ((Value.ref d == Value.none)=true) from Bool.false_ne_true)]
 refine wpAny_bind (wpAny_pure (wpAny_bind (wpAny_dictEntries gd dat ?_)))
 rw [if_neg (27:)]
 refine wpAny_bind (wpAny_pure (wpAny_bind (wpAny_dictEpoch gd dat ?_)))
 rw [if_neg (27:)]
 refine wpAny_pure ?_
 simp only [show ¬ ((i:Int) < 0) from by lia,if_false,Int.toNat_natCast,at_i]
 refine wpAny_bind ?_
 first | refine wpAny_bind (wpAny_typeNameOfWhole_keyiter hI.typeIs (wpAny_pure ?_)) | refine wpAny_bind (wpAny_typeNameOf_keyiter hI.typeIs (wpAny_pure ?_))
 refine wpAny_bind (wpAny_isOneOf_keyiter hI.typeIs ?_)
 show wpAny _ _ (setField (.ref it) 1 (rawInt ((i:Int)+1)) >>= _) _ _ s
 refine wpAny_bind (wpAny_setField gi di (27:) ?_)
 have hI2:(s.heap.update it (Obj.mapFields (·.setIfInBounds 1 (rawInt ((i:Int)+1))))).IsKeyIter it d (i + 1) ents.size ep:=by
  refine ⟨_,Heap.get?_update_self _ gi (Obj.isFreed_of_fields (Obj.data_mapFields di _)),(Obj.cls_mapFields ..).trans ci,?_⟩
  rw [Obj.data_mapFields di];simp [rawInt]
 refine wpAny_bind (wpAny_holding (wpAny_bind (wpAny_isOneOf_keyiter (s:={ s with heap:=s.heap.update it (Obj.mapFields (·.setIfInBounds 1 (rawInt ((i:Int)+1)))) }) hI2.typeIs ?_)))
 show wpAny _ _ (pure t.key) _ _ _
 exact wpAny_pure (wpAny_pure ⟨_,rfl,wpAny_pure (fin _ hI2 (Heap.SameBut.update ..))⟩)
end
theorem VJ {α:Type} {l:Array α} {m:List α} (h:l.toList=m):l.size=m.length:=by rw [← h,Array.length_toList]
section
variable {X:Cx}
end
section
variable {X:Cx}
end
end LD
end L2
namespace L2
namespace LD
open PySem PySem.Spec PyProof.Rows PySem.W
section
variable {prog:Program} {w:World} {A:Around} {E:Value→Shared→Prop} {s:Shared} {d it:Addr} {ents:Array DictEntry} {ep i:Nat}
theorem VR {Q:Option Value→Shared→Prop} (hh:A.handled=none) (hi2:ents.size≤i) (hI:s.heap.IsKeyIter it d i ents.size ep) (x:DEnt s.heap d ents ep) (fin:∀ h2,Heap.ExtBut it s.heap h2→Q none { s with heap:=h2 }):wpAny (26:) A (pyNext (.ref it)) Q E s:=by
 obtain ⟨oi,gi,ci,di⟩:=id hI
 obtain ⟨od,gd,exd,dat⟩:=id x
 unfold pyNext
 refine wpAny_bind (wpAny_attempt (wpAny_callSpecial?_slot (name:=Str.ofString "__next__") hI.typeIs F.slot_dict_keyiterator_next (wpAny_call_entry F.slot_dict_keyiterator_next hI.typeIs F.entry_dict_keyiterator_next ?_ (F.args_dict_keyiterator_next_1 _))))
 refine wpAny_bind (wpAny_pure (wpAny_bind (wpAny_bind ?_)))
 first | refine wpAny_bind (wpAny_typeNameOfWhole_keyiter hI.typeIs (wpAny_pure ?_)) | refine wpAny_bind (wpAny_typeNameOf_keyiter hI.typeIs (wpAny_pure ?_))
 refine wpAny_bind (wpAny_fieldsOf gi di ?_)
 have own0:Builtin.Dict_items.ownsTuple "dict_keyiterator" = false:=by decide
 simp only [own0,Bool.false_eq_true,if_false]
 show wpAny _ _ (if (Value.ref d == Value.none)=true then _ else _) _ _ s
 rw [if_neg (show ¬ ((Value.ref d == Value.none)=true) from Bool.false_ne_true)]
 refine wpAny_bind (wpAny_pure (wpAny_bind (wpAny_dictEntries gd dat ?_)))
 rw [if_neg (27:)]
 refine wpAny_bind (wpAny_pure (wpAny_bind (wpAny_dictEpoch gd dat ?_)))
 rw [if_neg (27:)]
 refine wpAny_pure ?_
 simp only [show ¬ ((i:Int) < 0) from by lia,if_false,Int.toNat_natCast,Array.getElem?_eq_none hi2]
 refine wpAny_bind ?_
 first | refine wpAny_bind (wpAny_typeNameOfWhole_keyiter hI.typeIs (wpAny_pure ?_)) | refine wpAny_bind (wpAny_typeNameOf_keyiter hI.typeIs (wpAny_pure ?_))
 show wpAny _ _ (setField (.ref it) 0 .none >>= _) _ _ s
 refine wpAny_bind (wpAny_setField gi di (27:) ?_)
 show wpAny _ _ (newExc (.type "StopIteration") [] >>= _) _ _ _
 refine wpAny_bind ?_
 simp only [newExc,newTuple]
 refine wpAny_bind (wpAny_newObj_type ?_ (by size_fits))
 refine wpAny_bind (m:=firstArgMember _ _) (wpAny_of_eq (a:=Value.none) (by first | rfl | (simp only [firstArgMember];rfl)) ?_)
 refine wpAny_newObj_type ?_ (by size_fits)
 simp only [raiseNew]
 refine wpAny_bind (wpAny_handled ?_)
 rw [show A.in1.handled=none from hh]
 refine wpAny_bind (wpAny_pure (wpAny_throw ?_))
 refine wpAny_bind (wpAny_isInstance (T:="StopIteration") (b:=true) ⟨_,Heap.get?_push_size _ rfl,rfl⟩ isSubtype_stop ?_)
 exact wpAny_pure (fin _ (((Heap.SameBut.update ..).extBut.push _).push _))
end
end LD
end L2
namespace L2
open PySem PySem.Spec PyProof.Rows LD
section
variable {X:Cx} {pins:List (10:)} {σ:St} {H:Hp} {s:Shared}
theorem Inv.freezeT {d:Addr} {kvs:List (List Key × V)} {ob:Obj} (I:Inv X pins σ H s) (hd:H d=some (.dT kvs)) (e:s.heap.get? d=some ob):Inv X pins σ (upd H d (.frz ob (.dT kvs))) s:=by
 have e1:∀ b u,H b=some u→u≠.dT kvs→upd H d (.frz ob (.dT kvs)) b=some u:=fun b u q n=>by rw [Qj (ne_of q hd n)];exact q
 have J:=I.step (h':=s.heap) (H':=upd H d (.frz ob (.dT kvs))) (g':=s.gens) (d':=s.drawn) (t':=s.toks) (ch:=[]) (fun _ z=>nomatch z) (fun b o _ _ _ q _=>q) (fun b o _ _ _ q _=>⟨o.slots,q⟩)
  (fun b o _ q n=>by rw [Qj (fun z=>by rw [z,hd] at n;cases n)];exact n) (fun b o _ q=>⟨o,q⟩) (fun b xs q=>e1 b _ q (12:)) (fun b o u q=>e1 b _ q (12:)) (fun b ps q=>⟨#[],by rw [e1 b _ q (12:)];simp⟩) (fun m hn=>hn)
  (fun b u q=>by
   by_cases hb:b=d
   ·subst hb
    rw [Qc] at q
    cases q
    exact ⟨e,(I.hok b _ hd).stay (fun c v _ r=>r) (fun c r=>e1 c _ r (12:)) fun c xs r=>e1 c _ r (12:)⟩
   ·rw [Qj hb] at q
    exact (I.hok b u q).stay (fun c v _ r=>r) (fun c r=>e1 c _ r (12:)) fun c xs r=>e1 c _ r (12:)) I.bare
 exact J
end
def Gc (d:Addr) (o:Obj) (kvs:List (List Key × V)):It :=
 ⟨fun i H=>H d=some (.frz o (.dT kvs))∧i < kvs.length,fun i H x H'=>H'=H∧∃ b q,x=.ref b∧kvs[i]?=some q∧H b=some (.tup (q.1.map kV)),fun i H=>H d=some (.frz o (.dT kvs))∧kvs.length≤i⟩
theorem Ll {P:Program} {w:World} {H:Hp} {h:Heap} {d:Addr} {o:Obj} {kvs:List (List Key × V)} {es:Array DictEntry} {ep:Nat} (x:HOk P w H h) (hd:H d=some (.frz o (.dT kvs))) (he:o.data=.dict es ep) :
 DEnt h d es ep∧es.size=kvs.length∧(d == sysModules)=false∧∀ (i:Nat) (q:List Key × V),kvs[i]?=some q→∃ (b:Addr) (t:DictEntry),es[i]?=some t∧t.key=Value.ref b∧H b=some (.tup (q.1.map kV)):=by
 obtain ⟨e,z,ne,xs,rel,o2,es2,ep2,e2,ex,dt,et,nd⟩:=x d _ hd
 rw [e] at e2
 cases e2
 rw [he] at dt
 cases dt
 have hl:=Paired.length rel
 have hs:es.size=xs.length:=by rw [VJ et,List.length_map]
 refine ⟨⟨o,e,ex,he⟩,by lia,ne,fun i q hq=>?_⟩
 have hi:i < kvs.length:=(List.getElem?_eq_some_iff.mp hq).1
 have hx:i < xs.length:=by lia
 have hi2:i < es.size:=by lia
 have hpair:kvs[i].1=xs[i].1∧H xs[i].2.1=some (.tup (kvs[i].1.map kV))∧RelV kvs[i].2 xs[i].2.2:=by
  clear et hs nd he e ex z hd hq hi2
  induction rel generalizing i with
  | nil=>simp at hi
  | @cons p y ps ys h t ih =>
   cases i with
   | zero=>exact h
   | succ i=>exact ih (by simpa using hl) i (by simpa using hi) (by simpa using hx)
 have eq:kvs[i]=q:=by
  rw [List.getElem?_eq_getElem hi] at hq
  exact Option.some.inj hq
 rw [eq] at hpair
 refine ⟨xs[i].2.1,es[i],Array.getElem?_eq_getElem hi2,?_,hpair.2.1⟩
 have:es[i]=entryOfKey (tupleKind (QA P w)) xs[i]:=by
  have h1:es.toList[i]?=(xs.map (entryOfKey (tupleKind (QA P w))))[i]?:=by rw [et]
  rw [Array.getElem?_toList,Array.getElem?_eq_getElem hi2,List.getElem?_map,List.getElem?_eq_getElem hx] at h1
  exact Option.some.inj h1
 rw [this];rfl
theorem Mw {P:Program} {w:World} {K:PySem.W.Frag} {tg:Expr} {d:Addr} {o:Obj} {es:Array DictEntry} {ep:Nat} (he:o.data=.dict es ep) (kvs:List (List Key × V)) (it:Addr):Turn P w K tg (Gc d o kvs) [it] it (fun i h=>h.IsKeyIter it d i es.size ep) where
 mem:=by simp
 obj:=fun i h st b hb=>by
  have e:b=it:=by simpa using hb
  subst e
  obtain ⟨ob,e,c,dt⟩:=st
  exact ⟨ob,e,fun v z=>by rw [dt] at z;cases z⟩
 keep:=fun i h h' st k=>by
  obtain ⟨ob,e,r⟩:=st
  exact ⟨ob,k it (27:) ob e,r⟩
 item:=by
  intro X hP hw hK hc i pins s σ H E I hf st hg
  subst hP hw hK
  obtain ⟨hd,hi⟩:=hg
  obtain ⟨D,hs,lo,get⟩:=Ll I.hok hd he
  obtain ⟨b,t,ht,hk,hb⟩:=get i kvs[i] (List.getElem?_eq_getElem hi)
  obtain ⟨f0,f1,f2,f3,f4,f5⟩:=hf it (27:)
  refine Vx st D ht fun h' st' sb=>?_
  have I1:Inv X pins σ H { s with heap:=h' }:=I.turned (t':=s.toks) (fun b o hb e=>(sb.2 b hb).trans e) f0 f1 f3 f4 f5
  obtain ⟨ob,e,c,dt⟩:=id st'
  exact ⟨t.key,rfl,Xm (s:={ s with heap:=h' }) e c dt (18:) ⟨.ref b,H,I1,hk,⟨rfl,b,_,rfl,List.getElem?_eq_getElem hi,hb⟩,st',fun b hb=>(hf b hb).1⟩⟩
 done:=by
  intro X hP hw hK hc i pins s σ H E I hf st hg
  subst hP hw hK
  obtain ⟨hd,hi⟩:=hg
  obtain ⟨D,hs,lo,get⟩:=Ll I.hok hd he
  obtain ⟨f0,f1,f2,f3,f4,f5⟩:=hf it (27:)
  have hi2:es.size≤i:=by lia
  exact VR (I.ok.hd hc) hi2 st D fun h' eb=>(36:)
 self:=fun A i s Q E st h=>wpAny_pyIter_keyiter st h
section
variable {X:Cx} {tg e:Expr} {te:TE}
def iDk (te:TE):TI:=fun σ H R=>te σ H fun x H1=>∃ d kvs,x=.ref d∧Rd H1 d (.dT kvs)∧∀ o H',H' d=some (.frz o (.dT kvs))→(∀ b,b≠d→H' b=H1 b)→R (Gc d o kvs) H'
theorem Ol (he:PE X e te):PI X tg e (iDk te):=by
 intro pins s σ H R I h
 refine thn (he pins s σ H _ I h) fun v s1 ⟨x,H1,I1,r1,d,kvs,ex,hd,q⟩=>?_
 subst ex
 obtain rfl:v=Value.ref d:=r1
 obtain ⟨o,H2,I2,h2,hne⟩ : ∃ o H2,Inv X pins σ H2 s1∧H2 d=some (.frz o (.dT kvs))∧∀ b,b≠d→H2 b=H1 b:=by
  rcases hd with hd | ⟨o,hd⟩
  ·obtain ⟨z,ne,xs,rel,o,es,ep,ho,_⟩:=I1.hok d _ hd
   exact ⟨o,_,I1.freezeT hd ho,Qc,fun b hb=>Qj hb⟩
  ·exact ⟨o,H1,I1,hd,fun _ _=>rfl⟩
 obtain ⟨e0,z,ne,xs,rel,o2,es,ep,e2,ex,dt,_⟩:=I2.hok d _ h2
 rw [e0] at e2
 cases e2
 refine VA ne ⟨o,e0,ex,dt⟩ ?_
 refine ⟨s1.heap.objs.size,[s1.heap.objs.size],_,_,_,rfl,I2.kept (t':=s1.toks) fun b o e=>Heap.get?_push_of_some _ e,Mw dt kvs _,⟨_,Heap.get?_push_size _ rfl,rfl,rfl⟩,fun b hb=>?_,q o H2 h2 hne⟩
 have e:b=s1.heap.objs.size:=by simpa using hb
 subst e
 exact I2.fpOk (9:) (I2.hok.fresh (9:))
end
theorem No {d:Addr} {o:Obj} {kvs:List (List Key × V)} {g:TG} {tb:TS} {D:Ends} {σ:St} {H:Hp} (Pv:Nat→St→Hp→Prop) (h0:Pv 0 σ H) (hl:∀ i σ H,i≤kvs.length→Pv i σ H→H d=some (.frz o (.dT kvs)))
 (hs:∀ i b q σ H,kvs[i]?=some q→H b=some (.tup (q.1.map kV))→Pv i σ H→g (.ref b) σ H fun σ2 H2=>tb { D with nx:=Pv (i + 1),ct:=Pv (i + 1),bk:=D.nx } σ2 H2) (hd:∀ σ H,Pv kvs.length σ H→D.nx σ H) :
 ∃ W:Nat→Nat→St→Hp→Prop,(∃ m,W 0 m σ H)∧∀ i m σ H,W i m σ H →
  ((Gc d o kvs).stop i H∧D.nx σ H)∨((Gc d o kvs).go i H∧∃ N:St→Hp→Prop,(17:)∧∀ x H',(Gc d o kvs).yld i H x H'→g x σ H' fun σ2 H2=>tb { D with nx:=N,ct:=N,bk:=D.nx } σ2 H2):=by
 refine ⟨fun i m σ H=>m=kvs.length - i∧i≤kvs.length∧Pv i σ H,⟨kvs.length,by simp,Nat.zero_le _,h0⟩,?_⟩
 rintro i m σ H ⟨rfl,hi,p⟩
 have q:=hl i σ H hi p
 by_cases hlt:i < kvs.length
 ·refine .inr ⟨⟨q,hlt⟩,Pv (i + 1),fun σ' H' p'=>⟨kvs.length - (i + 1),by lia,rfl,hlt,p'⟩,fun x H' y=>?_⟩
  obtain ⟨e,b,z,ex,y1,y2⟩:=y
  subst e
  subst ex
  exact hs i b z σ _ y1 y2 p
 ·have e:i=kvs.length:=by lia
  subst e
  exact .inl ⟨⟨q,Nat.le_refl _⟩,hd σ H p⟩
end L2
namespace K61
open PySem L2 TM TT K9 K11
abbrev kD (d:Dd):List Key:=[Sum.inl d.1,Sum.inr d.2]
end K61
namespace K61
open PySem L2 TM TT K9 K11
abbrev dA (c:Int × Int × Str):Dd:=(c.1,c.2.2)
theorem Ld {nm:Nat} {ks:List KdT} (hW:WG ks):∀ {n:Nat} {t:Tm} {k:Str} {p:List Int},TmB nm n t→(∃ k' ∈ ks,k'.2.1=k)→∀ i ∈ its (46:) n t k p,∀ c,i.2=some c→DOk nm ks (dA c)
 | 0,_,_,_,h,_,_,_,_,_=>h.elim
 | n + 1,t,k,p,⟨h1,h2,h3⟩,hk,i,hi,c,hc=>by
  rw [its] at hi
  cases el:lab t with
  | call m b =>
   rw [el] at hi
   obtain rfl:i=(p,some (m,b,k)):=by simpa using hi
   obtain rfl:=Option.some.inj hc
   exact ⟨(h1 m b el).1,(h1 m b el).2,hk⟩
  | put nm' kp ad =>
   rw [el] at hi
   dsimp only at hi
   cases er:rowK ks k nm' with
   | none =>
    rw [er] at hi
    obtain rfl:i=(p,none):=by simpa using hi
    cases hc
   | some ss =>
    rw [er] at hi
    dsimp only at hi
    by_cases e:ss.length=t.bs.length
    ·rw [if_pos e] at hi
     obtain ⟨q,hq,hi⟩:=List.mem_flatMap.mp hi
     have hz:q.1 ∈ t.bs.zip ss:=by
      have:=List.mem_map_of_mem (f:=Prod.fst) hq
      rwa [List.zipIdx_map_fst] at this
     exact Ld hW (h3 q.1.1 (List.of_mem_zip hz).1) (Yc hW er (List.of_mem_zip hz).2) i hi c hc
    ·rw [if_neg e] at hi
     obtain rfl:i=(p,none):=by simpa using hi
     cases hc
theorem Vm {nm:Nat} {ks:List KdT} (hW:WG ks) {n:Nat} {t:Tm} {k:Str} (h:TmB nm n t) (hk:∃ k' ∈ ks,k'.2.1=k) {c:Int × Int × Str} (hc:some c ∈ QG (46:) n t k):DOk nm ks (dA c):=by
 obtain ⟨i,hi,e⟩:=List.mem_map.mp hc
 exact Ld hW h hk i hi c e
abbrev Xr:=Addr × Addr × Rw × Addr × List (V × Ak) × List Ak
abbrev En:=Dd × Addr × List Xr
def XrAt (K:PySem.W.Frag) (H:Hp) (bad:Addr→Prop) (x:Xr):Prop:=SqT K H x.1 [.ref x.2.1,.ref x.2.2.2.1]∧RwAt K H x.2.1 x.2.2.1∧H x.2.2.2.1=some (.lst (x.2.2.2.2.1.map (·.1)))∧¬ bad x.2.2.2.1∧AkL K H x.2.2.2.2.1 x.2.2.2.2.2
def EnAt (K:PySem.W.Frag) (H:Hp) (bad:Addr→Prop) (e:En):Prop:=H e.2.1=some (.lst (e.2.2.map fun x=>V.ref x.1))∧¬ bad e.2.1∧∀ x ∈ e.2.2,XrAt K H bad x
theorem XrAt.keep {K:PySem.W.Frag} {H H':Hp} {bad:Addr→Prop} {x:Xr} (k:Kp K H H') (g:∀ a xs,¬ bad a→H a=some (.lst xs)→H' a=some (.lst xs)) (h:XrAt K H bad x):XrAt K H' bad x:=⟨k.2 _ _ h.1,h.2.1.kp k,g _ _ h.2.2.2.1 h.2.2.1,h.2.2.2.1,h.2.2.2.2.mono k.2⟩
theorem EnAt.keep {K:PySem.W.Frag} {H H':Hp} {bad:Addr→Prop} {e:En} (k:Kp K H H') (g:∀ a xs,¬ bad a→H a=some (.lst xs)→H' a=some (.lst xs)) (h:EnAt K H bad e):EnAt K H' bad e:=⟨g _ _ h.2.1 h.1,h.2.1,fun x hx=>(h.2.2 x hx).keep k g⟩
theorem EnAt.bad {K:PySem.W.Frag} {H:Hp} {b b':Addr→Prop} {e:En} (g:∀ a xs,H a=some (.lst xs)→¬ b a→¬ b' a) (h:EnAt K H b e):EnAt K H b' e:=⟨h.1,g _ _ h.1 h.2.1,fun x hx=>⟨(h.2.2 x hx).1,(h.2.2 x hx).2.1,(h.2.2 x hx).2.2.1,g _ _ (h.2.2 x hx).2.2.1 (h.2.2 x hx).2.2.2.1,(h.2.2 x hx).2.2.2.2⟩⟩
def knK (es:List En):List (List Key × V):=es.map fun e=>(kD e.1,V.ref e.2.1)
theorem U5 (d:Dd):∀ es:List En,ZJ (knK es) (kD d)=(es.find? fun e=>decide (e.1=d)).map fun e=>V.ref e.2.1
 | []=>rfl
 | b :: r=>by
  unfold knK
  rw [List.map_cons,List.find?_cons]
  by_cases e:b.1=d
  ·rw [ZF (p:=(kD b.1,V.ref b.2.1)) (by rw [e]),decide_eq_true e];rfl
  ·rw [ZE (p:=(kD b.1,V.ref b.2.1)) (fun z=>e (Vg z)),decide_eq_false e]
   exact U5 d r
def Zr (f:RK) (n:Nat) (rl:Dd→List (Rw × Tm)) (d:Dd):List (Rw × List Ak):=(rl d).map fun q=>(q.1,QG f n q.2 d.2)
abbrev shX (x:Xr):Rw × List Ak:=(x.2.2.1,x.2.2.2.2.2)
def Gs (K:PySem.W.Frag) (H:Hp) (tl:List (V × Ak)):Prop:=∀ q ∈ tl,AkV K H q.1 q.2∧q.2≠none
def Q2 (l:List (V × Ak)):List (V × Ak):=l.filter fun q=>q.2.isSome
def Li:Ak→PyData
 | none=>.none
 | some c=>.tuple [.int c.1,.int c.2.1,.str c.2.2]
theorem Vl {K:PySem.W.Frag} {H:Hp}:∀ {tl:List (V × Ak)},Gs K H tl→RdAll K H (tl.map (·.1)) (tl.map fun q=>Li q.2)
 | [],_=>.nil
 | q :: r,h=>by
  obtain ⟨h1,h2⟩:=h q List.mem_cons_self
  refine .cons ?_ (Vl fun x hx=>h x (List.mem_cons_of_mem _ hx))
  obtain ⟨v,o⟩:=q
  cases o with
  | none=>exact absurd rfl h2
  | some c =>
   obtain ⟨a,e,ha⟩:=h1
   have e:v=.ref a:=e
   subst e
   exact .tup ha (.cons (.int _) (.cons (.int _) (.cons (.str _) .nil)))
theorem XN:∀ {tl:List (V × Ak)},(∀ q ∈ tl,q.2≠none∧∀ c,q.2=some c→PyData.strOk c.2.2=true)→PyData.canLayAll0 (tl.map fun q=>Li q.2)=true
 | [],_=>by simp [PyData.canLayAll0]
 | q :: r,h=>by
  obtain ⟨h1,h2⟩:=h q List.mem_cons_self
  obtain ⟨v,o⟩:=q
  cases o with
  | none=>exact absurd rfl h1
  | some c =>
   simp only [List.map_cons,PyData.canLayAll0,Li,PyData.canLay0,h2 c rfl,Bool.and_self,Bool.true_and]
   exact XN fun x hx=>h x (List.mem_cons_of_mem _ hx)
structure Kn (f:RK) (n:Nat) (rl:Dd→List (Rw × Tm)) (a0:List Ak) (es:List En):Prop where
 nd:(es.map (·.1)).Nodup
 rw:∀ e ∈ es,e.2.2.map shX=Zr f n rl e.1
 st:∀ c,some c ∈ a0→dA c ∈ es.map (·.1)
 go:∀ d ∈ es.map (·.1),∀ r ∈ Zr f n rl d,∀ c,some c ∈ r.2→dA c ∈ es.map (·.1)
 lt:∀ S:Dd→Prop,(∀ c,some c ∈ a0→S (dA c))→(∀ d,S d→∀ r ∈ Zr f n rl d,∀ c,some c ∈ r.2→S (dA c))→∀ d ∈ es.map (·.1),S d
def JY (K:PySem.W.Frag) (n:Nat):Sp:=fun vs H Q _=>∃ (nm:Nat) (tu wd lm lo:Addr) (sv:V) (ks1 ks:List KdT) (k00:KdT) (t0:Tm) (ms:List MoT),vs=[.ref tu,.ref lo]∧TuAt K H tu wd sv lm ks1 t0 ms∧TuOk ks1 nm n t0 ms∧WoodAt K H lo ks∧WG ks∧ks[0]?=some k00∧nm * ks.length≤1000∧n≤3∧(∀ k ∈ ks,PyData.strOk k.2.1=true) ∧
 (∀ k,(QG (46:) n t0 k).length≤1000)∧(∀ m ∈ ms,m.2.2.2.2.length≤10∧∀ t ∈ m.2.2.2.2,∀ k,(QG (46:) n t k).length≤1000) ∧
 ∀ (kn:Addr) (H':Hp) (es:List En),Same H H'→H kn=none→H' kn=some (.dT (knK es))→(∀ e ∈ es,EnAt K H' (fun _=>False) e)→(∀ e ∈ es,DOk nm ks e.1)→Kn (46:) n (QB ks1 ms) (QG (46:) n t0 k00.2.1) es→Q (.ref kn) H'
end K61
namespace K61
open PySem L2 TM TT K9 K11
theorem XL {K:PySem.W.Frag} {H:Hp} {l:List (V × Ak)} {as:List Ak} (h:AkL K H l as):Gs K H (Q2 l):=fun q hq=>by
 obtain ⟨h1,h2⟩:=List.mem_filter.mp hq
 exact ⟨h.2 q h1,fun z=>by rw [z] at h2;cases h2⟩
theorem Js {K:PySem.W.Frag} {H:Hp} {l:List (V × Ak)} {as:List Ak} (h:AkL K H l as) {c:Int × Int × Str} (hc:some c ∈ as):some c ∈ (Q2 l).map (·.2):=by
 rw [← h.1] at hc
 obtain ⟨q,hq,e⟩:=List.mem_map.mp hc
 exact List.mem_map.mpr ⟨q,List.mem_filter.mpr ⟨hq,by rw [e];rfl⟩,e⟩
theorem JD {K:PySem.W.Frag} {H:Hp} {l:List (V × Ak)} {as:List Ak} (h:AkL K H l as):∀ q ∈ Q2 l,q.2 ∈ as:=fun q hq=>by
 rw [← h.1]
 exact List.mem_map_of_mem (List.mem_filter.mp hq).1
structure Wk (K:PySem.W.Frag) (f:RK) (n nm:Nat) (ks:List KdT) (rl:Dd→List (Rw × Tm)) (a0:List Ak) (H':Hp) (kn td:Addr) (es:List En) (tl:List (V × Ak)):Prop where
 hkn:H' kn=some (.dT (knK es))
 htd:H' td=some (.lst (tl.map (·.1)))
 en:∀ e ∈ es,EnAt K H' (fun a=>a=td) e
 ta:Gs K H' tl
 tk:∀ q ∈ tl,∀ c,q.2=some c→DOk nm ks (dA c)
 dk:∀ e ∈ es,DOk nm ks e.1
 nd:(es.map (·.1)).Nodup
 rw:∀ e ∈ es,e.2.2.map shX=Zr f n rl e.1
 st:∀ c,some c ∈ a0→dA c ∈ es.map (·.1)∨some c ∈ tl.map (·.2)
 go:∀ d ∈ es.map (·.1),∀ r ∈ Zr f n rl d,∀ c,some c ∈ r.2→dA c ∈ es.map (·.1)∨some c ∈ tl.map (·.2)
 lt:∀ S:Dd→Prop,(∀ c,some c ∈ a0→S (dA c))→(∀ d,S d→∀ r ∈ Zr f n rl d,∀ c,some c ∈ r.2→S (dA c))→(∀ d ∈ es.map (·.1),S d)∧∀ q ∈ tl,∀ c,q.2=some c→S (dA c)
section
variable {P:Program} {w:World} {K:PySem.W.Frag} {mg:Str→Option Value} {base:Heap} {f:Addr} {fd:FuncData}
abbrev NJ:List Str:=["_law_turning_here", "_law_out", "_law_known", "_law_todo", "_law_ask", "_law_pair", "_law_kind", "_law_rules", "_law_row_here", "_law_rule_here", "_law_asks_here"]
theorem Zh:FnScope NJ ["_law_turning_here", "_law_out"] (defScope J3):=(1:)
theorem Lu {n:Nat} (F:Fun K "_law_pairs" "_law_pairs" J3 f fd) (G:Gm mg) (RA:Fn P w K mg base (n + 2) "_law_asks" ["_law_wood_here", "_law_term", "_law_kind"] (Z7 K n)):FnOk P w K mg base CX0 (n + 3) f fd ["_law_turning_here", "_law_out"] (JY K n):=by
 refine F.ok Zh (8:) (4:)
 ·obtain ⟨nm,tu,wd,lm,lo,sv,ks1,ks,k00,t0,ms,rfl,_⟩:=h
  rfl
 obtain ⟨nm,tu,wd,lm,lo,sv,ks1,ks,k00,t0,ms,rfl,hTu,hO,hWo,hWG,hk00,hnk,hn3,hso,hl0,hlm,q⟩:=h
 have room:∀ m:Nat,m≤64→(A.deeper (PyProof.Rows.envOfC "_law_pairs" (defScope J3) s.heap.objs.size f cdv)).units + m < cLine:=fun m hm=>by have:=hr.units;lia
 refine ⟨_,(Qe (Ql (i:=2) Zh.nd rfl (7:) Xx)
  (Qe (ZY (i:=3) (CompG.many (xs:=["_law_ask"]) (caps:=[]) (cap:=[]) (cs:=[]) rfl rfl (0:) (0:) (0:) (0:) (0:) (0:) rfl rfl rfl) rfl (QO (Qs RA hr (Qa (pv 1) (Qa (45:) (Qa (Qi Qg (Qi Qx (pv 1) Qb (3:)) Qb (3:)) Qd))) (9:))) (Z4 (CompG.many (xs:=["_law_ask"]) (caps:=[]) (cap:=[]) (cs:=[]) rfl rfl (0:) (0:) (0:) (0:) (0:) (0:) rfl rfl rfl)) (fun _ _ _ _=>UN (Qp Uj (pv 0) Q5 (Qt _))) (fun _ _ _ _=>pv 0) Zh.nd rfl rfl)
  (Qe (YE PassesOwn.never (Qp Y5 (pv 3) (QM Qd) (Qt _)) (Qe (Ql (i:=4) Zh.nd rfl (7:) (NB PySem.F.plainAttrs_list PySem.F.slot_list_pop PySem.F.type_list_pop Nw (pv 3)))
  (Qe (Ql (i:=5) Zh.nd rfl (7:) (Qv (Qa (Qi Qg (pv 4) Qb (3:)) (Qa (Qi Qg (pv 4) Qb (3:)) Qd))))
  (Qh (QF (YW (Jm (Ze hr) (pv 5) (pv 2))) (Qe (WT (Ze hr) (pv 2) (pv 5) (QM Qd) rfl)
  (Qe (JM (Qi Qx (45:) (Qi Qg (pv 4) Qb (3:)) (3:)) (Zb rfl (Qw (Qq (i:=6) Zh.nd rfl (7:)) (Qw (Qq (i:=7) Zh.nd rfl (7:)) QX))))
  (Qh (QL PassesOwn.never rfl (WI rfl G.zip (Qa (Zg (Ze hr) (QE (QZ rfl) rfl G.dct PyProof.Rows.boot_dict (Qa (45:) Qd)) (pv 6) (3:)) (Qa (pv 7) Qd))) (Zb rfl (Qw (Qq (i:=8) Zh.nd rfl (7:)) (Qw (Qq (i:=9) Zh.nd rfl (7:)) QX))) (Qe (Ql (i:=10) Zh.nd rfl (7:) (Qs RA hr (Qa (pv 1) (Qa (pv 9) (Qa (Qi Qg (pv 4) Qb (3:)) Qd))) (9:)))
  (Qe (QJ (Zo PySem.F.plainAttrs_list PySem.F.slot_list_append PySem.F.type_list_append QR (Zg (Ze hr) (pv 2) (pv 5) (3:)) (Qa ((Qv (Qa (pv 8) (Qa (pv 10) Qd)))) Qd)))
  (Qh (QJ (Zo PySem.F.plainAttrs_list PySem.F.slot_list_extend PySem.F.type_list_extend Jh (pv 3) (Qa (Q6 (CompG.many (xs:=["_law_more"]) (caps:=[]) (cap:=[]) (cs:=[]) rfl rfl (0:) (0:) (0:) (0:) (0:) (0:) rfl rfl rfl) rfl (QO (pv 10)) (Z4 (CompG.many (xs:=["_law_more"]) (caps:=[]) (cap:=[]) (cs:=[]) rfl rfl (0:) (0:) (0:) (0:) (0:) (0:) rfl rfl rfl)) (fun _ _ _ _=>UN (Qp Uj (pv 0) Q5 (Qt _))) (fun _ _ _ _=>pv 0)) Qd)))))))))) Qu)))))
  (Qh (Qo (pv 2)))))),?_⟩
 refine fun kn hkn=>?_
 have g1:=Qf hkn (.dT [])
 have hk00m:=List.mem_of_getElem? hk00
 have hat:atI (52:) 0=some (.ref k00.1):=Qy (j:=0) (by rw [List.getElem?_map,hk00];rfl)
 have hW1:=hWo.same g1
 have hT1:=hTu.same g1
 refine ⟨_,rfl,_,rfl,tu,_,1,_,rfl,rfl,hT1.tu,rfl,_,rfl,lo,_,0,_,rfl,rfl,hW1.1,hat,k00.1,_,0,_,rfl,rfl,(hW1.2 k00 hk00m).1,rfl,nm,lo,sv,k00.2.1,ks,t0,rfl,hW1,hWG,hT1.st,hO.st,hn3,⟨k00,hk00m,rfl⟩,fun la H2 l g2 hla0 hla hA hll=>?_⟩
 have hl1000:l.length≤1000:=by
  have:=hl0 k00.2.1
  rw [← hA.1,List.length_map] at this
  exact this
 refine ⟨la,rfl,⟨_,SqL.of hla⟩,fun td htd=>?_⟩
 have somesS:∀ {l:List (V × Ak)} {i:Nat} (hi:i < l.length),Q2 (l.take (i + 1))=Q2 (l.take i) ++ (if l[i].2.isSome then [l[i]] else []):=fun {l i} hi=>by
  unfold Q2
  rw [List.take_add_one,List.getElem?_eq_getElem hi,List.filter_append]
  cases e:l[i].2.isSome <;> simp [e]
 refine Yj (K:=K) (xs:=l.map (·.1)) (cs:=[]) (te:=ZI 0) (fun j ys H'=>ys=(Q2 (l.take j)).map (·.1)∧H' td=some (.lst ys)∧Same H2 H') ⟨rfl,Qc,Qf htd _⟩ ?_ ?_ ?_
 ·rintro j ys H' _ ⟨_,_,g⟩
  exact g.seq (SqL.of hla)
 ·rintro j y ys H' hj hy ⟨rfl,hya,g⟩
  have hjl:j < l.length:=by simpa using hj
  obtain rfl:y=l[j].1:=by
   rw [List.getElem?_map,List.getElem?_eq_getElem hjl] at hy
   exact (Option.some.inj hy).symm
  have hv:=hA.2 _ (List.getElem_mem hjl)
  have es:=somesS hjl
  cases eo:l[j].2 with
  | none =>
   rw [eo] at hv es
   have ev:l[j].1=.non:=hv
   rw [ev]
   refine ⟨_,rfl,rfl,_,rfl,Q3 (ZC hj ⟨?_,hya,g⟩)⟩
   rw [es];simp
  | some c =>
   rw [eo] at hv es
   obtain ⟨a,ev,ha⟩:=hv
   rw [ev]
   refine ⟨_,rfl,rfl,_,rfl,Q8 ⟨_,rfl,?_⟩⟩
   have hsl:(Q2 (l.take j)).length≤j:=Nat.le_trans (List.length_filter_le _ _) (by rw [List.length_take];lia)
   refine QI hj hya (15:) ⟨?_,Qc,fun b u e=>?_⟩
   ·rw [es];simp [ev]
   ·rw [Qj (Qk e htd)];exact g _ _ e
 rintro ys H3 ⟨rfl,htd3,g3⟩
 rw [List.length_map,List.take_length] at htd3
 have g13:=g1.trans (g2.trans g3)
 have sub:=JD hA
 have hsl:(Q2 l).length≤1000:=Nat.le_trans (List.length_filter_le _ _) hl1000
 have htd0:H td=none:=by
  cases e:H td with
  | none=>rfl
  | some u=>rw [g2 _ _ (g1 _ _ e)] at htd;cases htd
 have W0:Wk K (46:) n nm ks (QB ks1 ms) (QG (46:) n t0 k00.2.1) H3 kn td [] (Q2 l):=by
  refine ⟨g3 _ _ (g2 _ _ Qc),htd3,fun e he=>(nomatch he),fun q hq=>?_,fun q hq c hc=>?_,fun e he=>(nomatch he),List.nodup_nil,fun e he=>(nomatch he),fun c hc=>.inr (Js hA hc),fun d hd=>(nomatch hd),fun S s1 _=>⟨fun d hd=>(nomatch hd),fun q hq c hc=>?_⟩⟩
  ·obtain ⟨z1,z2⟩:=XL hA q hq
   exact ⟨z1.mono fun _ _=>g3.seqT,z2⟩
  ·exact Vm hWG hO.st ⟨k00,hk00m,rfl⟩ (by rw [← hc];exact sub q hq)
  ·exact s1 c (by rw [← hc];exact sub q hq)
 refine Uq (fun m σ H'=>∃ (c4 c5 c6 c7 c8 c9 c10:Option V) (es:List En) (tl:List (V × Ak)),σ=[some (.ref tu),some (.ref lo),some (.ref kn),some (.ref td),c4,c5,c6,c7,c8,c9,c10]∧Same H H'∧Wk K (46:) n nm ks (QB ks1 ms) (QG (46:) n t0 k00.2.1) H' kn td es tl∧m=(nm * ks.length - es.length) * 10001 + tl.length∧m≤1000 * 10001 + 1000) (nm * ks.length * 10001 + (Q2 l).length)
  ⟨none,none,none,none,none,none,none,[],Q2 l,rfl,g13,W0,by simp,by lia⟩ ?_ ?_
 ·rintro m σ H' ⟨c4,c5,c6,c7,c8,c9,c10,es,tl,rfl,g,W,rfl,hm⟩
  refine ⟨_,rfl,(16:),fun pe hpe=>?_⟩
  have ge:=Qf hpe (.lst [])
  have lay:(PyData.list (tl.map fun x:V × Ak=>Li x.2)).canLay0=true:=by
   simp only [PyData.canLay0]
   refine XN fun x hx=>⟨(W.ta x hx).2,fun c hc=>?_⟩
   obtain ⟨_,_,k,hk,ek⟩:=W.tk x hx c hc
   have:=hso k hk
   rw [ek] at this
   exact this
  refine ⟨PyData.list (tl.map fun x:V × Ak=>Li x.2),.list [],.lst (ge.seq (SqL.of W.htd)) (Vl fun x hx=>⟨(W.ta x hx).1.mono fun _ _=>ge.seqT,(W.ta x hx).2⟩),.lst (SqL.of Qc) .nil,lay,by simp [PyData.canLay0,PyData.canLayAll0],room _ (34:),_,rfl,?_⟩
  rw [if_pos rfl,Uy]
  have gg:=g.trans ge
  cases etl:tl with
  | nil =>
   refine Q3 ?_
   have hkn4:=ge _ _ W.hkn
   refine ⟨_,rfl,q kn _ es gg hkn hkn4 (fun e he=>((W.en e he).keep (.of ge) fun a xs _ h=>ge _ _ h).bad fun _ _ _ _=>id) W.dk ⟨W.nd,W.rw,fun c hc=>?_,fun d hd r hr c hc=>?_,fun S s1 s2=>(W.lt S s1 s2).1⟩⟩
   ·rcases W.st c hc with z | z
    ·exact z
    ·rw [etl] at z;cases z
   ·rcases W.go d hd r hr c hc with z | z
    ·exact z
    ·rw [etl] at z;cases z
  | cons t0' r0' =>
   refine Q8 ?_
   rw [← etl]
   have hne:tl≠[]:=by rw [etl];intro z;cases z
   clear etl t0' r0'
   have hlast:tl.length - 1 < tl.length:=by have:=List.length_pos_iff.mpr hne;lia
   generalize hH4:upd H' pe (.lst [])=H4 at ge gg
   have k4:Kp K H' H4:=.of ge
   have htd4:=ge _ _ W.htd
   have hkn4:=ge _ _ W.hkn
   obtain ⟨⟨x1,x2⟩,hx⟩ : ∃ x,x=tl[tl.length - 1]:=⟨_,rfl⟩
   have hxm:(x1,x2) ∈ tl:=by rw [hx];exact List.getElem_mem hlast
   have htl:tl=tl.dropLast ++ [(x1,x2)]:=by rw [hx,← List.getLast_eq_getElem hne];exact (List.dropLast_concat_getLast hne).symm
   have md:∀ {x},x ∈ tl.dropLast→x ∈ tl:=fun hx=>(List.dropLast_sublist tl).subset hx
   obtain ⟨hxa,hxn⟩:=W.ta _ hxm
   cases x2 with
   | none=>exact absurd rfl hxn
   | some c =>
   obtain ⟨xa,ex1,hxa⟩:=hxa
   have ex1:x1=.ref xa:=ex1
   subst ex1
   have hcd:=W.tk _ hxm c rfl
   refine ⟨_,rfl,.inl ⟨rfl,_,SqL.of htd4⟩,td,_,.ref xa,rfl,rfl,htd4,?_,?_⟩
   ·rw [List.length_map,List.getElem?_map,List.getElem?_eq_getElem hlast,← hx];rfl
   have k5:Kp K H4 (upd H4 td (.lst (tl.map (·.1)).dropLast)):=Kp.put htd4
   generalize hH5:upd H4 td (.lst (tl.map (·.1)).dropLast)=H5 at k5
   have gg5:Same H H5:=fun b u e=>by rw [← hH5,Qj (Qk e htd0)];exact gg _ _ e
   have htd5:H5 td=some (.lst (tl.dropLast.map (·.1))):=by rw [← hH5,Qc,List.map_dropLast]
   have nkt:kn≠td:=ne_of hkn4 htd4 (12:)
   have hkn5:H5 kn=some (.dT (knK es)):=by rw [← hH5,Qj nkt];exact hkn4
   have kp5:Kp K H' H5:=⟨fun a xs h=>k5.1 _ _ (k4.1 _ _ h),fun a xs h=>k5.2 _ _ (k4.2 _ _ h)⟩
   have en5:∀ e ∈ es,EnAt K H5 (fun a=>a=td) e:=fun e he=>(W.en e he).keep kp5 fun a xs nb h=>by rw [← hH5,Qj nb];exact ge _ _ h
   have ha5:=kp5.2 _ _ hxa
   refine ⟨_,rfl,xa,_,0,_,rfl,rfl,ha5,rfl,_,rfl,xa,_,2,_,rfl,rfl,ha5,rfl,(23:),fun pp hpp=>?_⟩
   have g6:=Qf hpp (.tup [.int c.1,.str c.2.2])
   generalize hH6:upd H5 pp (.tup [.int c.1,.str c.2.2])=H6 at g6
   have hpp6:H6 pp=some (.tup ((kD (dA c)).map kV)):=by rw [← hH6];exact Qc
   have gg6:=gg5.trans g6
   have kp6:Kp K H' H6:=⟨fun a xs h=>g6 _ _ (kp5.1 _ _ h),fun a xs h=>g6.seqT (kp5.2 _ _ h)⟩
   have en6:∀ e ∈ es,EnAt K H6 (fun a=>a=td) e:=fun e he=>(en5 e he).keep (.of g6) fun a xs _ h=>g6 _ _ h
   have ta6:Gs K H6 tl.dropLast:=fun x hx=>⟨(W.ta x (md hx)).1.mono kp6.2,(W.ta x (md hx)).2⟩
   have tk6:∀ x ∈ tl.dropLast,∀ c,x.2=some c→DOk nm ks (dA c):=fun x hx=>W.tk x (md hx)
   have inTl:∀ {o:Ak},o ∈ tl.map (·.2)→o ∈ tl.dropLast.map (·.2)∨o=some c:=fun {o} ho=>by
    rw [htl,List.map_append] at ho
    rcases List.mem_append.mp ho with z | z
    ·exact .inl z
    ·exact .inr (by simpa using z)
   have hdl:tl.dropLast.length=tl.length - 1:=List.length_dropLast
   refine ⟨_,rfl,_,rfl,kn,_,rfl,DGet.t (g6 _ _ hkn5) hpp6,?_⟩
   rw [U5]
   cases ef:es.find? fun e=>decide (e.1=dA c) with
   | some e0 =>
    have hin:dA c ∈ es.map (·.1):=List.mem_map.mpr ⟨e0,List.mem_of_find?_eq_some ef,by simpa using List.find?_some ef⟩
    refine ⟨_,rfl,Q3 ⟨(nm * ks.length - es.length) * 10001 + tl.dropLast.length,by lia,_,_,_,_,_,_,_,es,tl.dropLast,rfl,gg6,⟨g6 _ _ hkn5,g6 _ _ htd5,en6,ta6,tk6,W.dk,W.nd,W.rw,fun c' hc=>?_,fun d hd r hr c' hc=>?_,fun S s1 s2=>⟨(W.lt S s1 s2).1,fun x hx=>(W.lt S s1 s2).2 x (md hx)⟩⟩,rfl,by lia⟩⟩
    ·rcases W.st c' hc with z | z
     ·exact .inl z
     ·rcases inTl z with y | y
      ·exact .inr y
      ·obtain rfl:=Option.some.inj y
       exact .inl hin
    ·rcases W.go d hd r hr c' hc with z | z
     ·exact .inl z
     ·rcases inTl z with y | y
      ·exact .inr y
      ·obtain rfl:=Option.some.inj y
       exact .inl hin
   | none =>
    have hni:dA c ∉ es.map (·.1):=fun z=>by
     obtain ⟨e0,h0,e1⟩:=List.mem_map.mp z
     have:=List.find?_eq_none.mp ef e0 h0
     simp [e1] at this
    have hcap:es.length + 1≤nm * ks.length:=by
     have:=ZL (ds:=es.map (·.1) ++ [dA c]) (nm:=nm) (ks:=ks) (List.nodup_append.mpr ⟨W.nd,by simp,fun a ha b hb=>by
      have:b=dA c:=by simpa using hb
      subst this
      exact fun z=>hni (by rw [← z];exact ha)⟩) fun d hd=>by
       rcases List.mem_append.mp hd with z | z
       ·obtain ⟨e0,h0,e1⟩:=List.mem_map.mp z
        rw [← e1];exact W.dk e0 h0
       ·have:d=dA c:=by simpa using z
        rw [this];exact hcd
     simpa using this
    refine ⟨_,rfl,Q8 ?_⟩
    obtain ⟨i,hi⟩ : ∃ i:Nat,c.1=(i:Int):=⟨c.1.toNat,(Int.toNat_of_nonneg hcd.1).symm⟩
    have hil:i < ms.length:=by have:=hcd.2.1;rw [hO.cn];show i < nm;have:c.1 < (nm:Int):=this;lia
    have hmm:=List.getElem_mem hil
    obtain ⟨kd,hkf,erow,hkm⟩:=QV (hO.kd _ hmm)
    have hrul:kd.2.2.2.length=ms[i].2.2.2.2.length:=by rw [← erow];exact hO.ru _ hmm
    have erl:QB ks1 ms (dA c)=(kd.2.2.2.zip ms[i].2.2.2.2).map fun q=>((q.1.2.1,q.1.2.2.2),q.2):=by unfold QB;rw [show (dA c).1=(i:Int) from hi,Int.toNat_natCast,List.getElem?_eq_getElem hil];show List.map _ _=_;rw [erow]
    have hml10:=(hlm _ hmm).1
    have hmlA:=(hlm _ hmm).2
    have hatm:atI (ms.map fun m=>V.ref m.1) c.1=some (.ref ms[i].1):=by rw [hi];exact Qy (by rw [List.getElem?_map,List.getElem?_eq_getElem hil];rfl)
    refine ⟨(16:),fun lr hlr=>?_⟩
    have g7:=Qf hlr (.lst [])
    have hlr7:upd H6 lr (.lst []) lr=some (.lst []):=Qc
    have hlrH:H lr=none:=by
     cases e:H lr with
     | none=>rfl
     | some u=>rw [gg6 _ _ e] at hlr;cases hlr
    generalize hH7:upd H6 lr (.lst [])=H7 at g7 hlr7
    have hkn7:=g7 _ _ (g6 _ _ hkn5)
    have hput:=DPut.t (v:=.ref lr) hkn7 (g7 _ _ hpp6) (by rw [knK,List.length_map,Qz];lia)
    rw [Xw (.ref lr) (by rw [U5,ef];rfl)] at hput
    have ekn:knK es ++ [(kD (dA c),V.ref lr)]=knK (es ++ [(dA c,lr,[])]):=by unfold knK;rw [List.map_append];rfl
    rw [ekn] at hput
    refine ⟨_,rfl,_,rfl,kn,_,rfl,hput,?_⟩
    have hnl:kn≠lr:=ne_of hkn7 hlr7 (12:)
    have nt8:td≠lr:=fun z=>by rw [← z,g6 _ _ htd5] at hlr;cases hlr
    have k8:Kp K H7 (upd H7 kn (.dT (knK (es ++ [(dA c,lr,[])])))):=⟨fun a xs e=>by rw [Qj (ne_of e hkn7 (12:))];exact e,fun a xs e=>by
     rcases e with (e | ⟨o,e⟩) | e
     ·exact .inl (.inl (by rw [Qj (ne_of e hkn7 (12:))];exact e))
     ·exact .inl (.inr ⟨o,by rw [Qj (ne_of e hkn7 (12:))];exact e⟩)
     ·exact .inr e⟩
    have gg8:Same H (upd H7 kn (.dT (knK (es ++ [(dA c,lr,[])])))):=fun b u e=>by
     rw [Qj (Qk e hkn)]
     exact g7 _ _ (gg6 _ _ e)
    have l8:∀ a xs,H7 a=some (.lst xs)→upd H7 kn (.dT (knK (es ++ [(dA c,lr,[])]))) a=some (.lst xs):=fun a xs e=>by rw [Qj (ne_of e hkn7 (12:))];exact e
    have hkn8:upd H7 kn (.dT (knK (es ++ [(dA c,lr,[])]))) kn=some (.dT (knK (es ++ [(dA c,lr,[])]))):=Qc
    generalize hH8:upd H7 kn (.dT (knK (es ++ [(dA c,lr,[])])))=H8 at k8 gg8 l8 hkn8
    have kp8:Kp K H6 H8:=⟨fun a xs h=>k8.1 _ _ (g7 _ _ h),fun a xs h=>k8.2 _ _ (g7.seqT h)⟩
    have hT8:=hTu.same gg8
    have hx8:=kp8.2 _ _ (kp6.2 _ _ hxa)
    obtain ⟨m1,m2,m3⟩:=hT8.mo _ hmm
    refine ⟨_,rfl,tu,_,2,_,rfl,rfl,hT8.tu,rfl,_,rfl,xa,_,0,_,rfl,rfl,hx8,rfl,lm,_,_,_,rfl,rfl,hT8.lm,hatm,_,_,rfl,m1,rfl,_,_,rfl,_,_,rfl,rfl,?_⟩
    refine ⟨_,rfl,tu,_,0,_,rfl,rfl,hT8.tu,rfl,wd,wts ks1,rfl,wdA hT8.wd,wdB hT8.wd,wdC hO.wo,wdD hO.wo,fun dd hdd=>⟨_,rfl,dd,.ref kd.2.2.1,rfl,UB Qc hkf,?_⟩⟩
    have g9:=Qf hdd (.dK (wkv ks1))
    generalize hH9:upd H8 dd (.dK (wkv ks1))=H9 at g9
    have gg9:=gg8.trans g9
    have hT9:=hTu.same gg9
    have hxl:(kd.2.2.2.map fun t=>V.ref t.1).length=ms[i].2.2.2.1.length:=by rw [List.length_map,hrul];exact (hT9.mo _ hmm).2.2.length.symm
    refine ⟨_,rfl,kd.2.2.1,ms[i].2.2.1,_,_,rfl,(hT9.wd.2 kd hkm).2.1,(hT9.mo _ hmm).2.1,?_⟩
    have en9:∀ e ∈ es,EnAt K H9 (fun a=>a=td∨a=lr) e:=fun e he=>((en6 e he).bad (b':=fun a=>a=td∨a=lr) fun a xs h nb z=>z.elim nb fun z=>by rw [z,hlr] at h;cases h).keep ⟨fun a xs h=>g9 _ _ (kp8.1 _ _ h),fun a xs h=>g9.seqT (kp8.2 _ _ h)⟩ fun a xs _ h=>g9 _ _ (l8 _ _ (g7 _ _ h))
    have erA:Zr (46:) n (QB ks1 ms) (dA c)=(kd.2.2.2.zip ms[i].2.2.2.2).map fun q=>((q.1.2.1,q.1.2.2.2),QG (46:) n q.2 c.2.2):=by unfold Zr;rw [erl,List.map_map];rfl
    generalize hRA:Zr (46:) n (QB ks1 ms) (dA c)=RA' at erA
    have hRAl:RA'.length=kd.2.2.2.length:=by rw [erA,List.length_map,List.length_zip];lia
    refine JJ (K:=K) (xs:=kd.2.2.2.map fun t=>V.ref t.1) (ys:=ms[i].2.2.2.1) hxl (fun j σ H'=>∃ (c8 c9 c10:Option V) (rows:List Xr) (tl':List (V × Ak)),σ=[some (.ref tu),some (.ref lo),some (.ref kn),some (.ref td),some (.ref xa),some (.ref pp),some (.str ms[i].2.1),some (.ref ms[i].2.2.1),c8,c9,c10]∧Same H H'∧H' kn=some (.dT (knK (es ++ [(dA c,lr,[])])))∧H' pp=some (.tup ((kD (dA c)).map kV))∧SqT K H' xa [.int c.1,.int c.2.1,.str c.2.2]∧(∀ e ∈ es,EnAt K H' (fun a=>a=td∨a=lr) e)∧H' lr=some (.lst (rows.map fun x=>V.ref x.1))∧(∀ x ∈ rows,XrAt K H' (fun a=>a=td∨a=lr) x)∧rows.map shX=RA'.take j∧H' td=some (.lst (tl'.map (·.1)))∧Gs K H' tl'∧(∀ o ∈ tl.dropLast.map (·.2),o ∈ tl'.map (·.2))∧(∀ r ∈ RA'.take j,∀ c,some c ∈ r.2→some c ∈ tl'.map (·.2))∧(∀ q ∈ tl',q.2 ∈ tl.dropLast.map (·.2)∨∃ r ∈ RA'.take j,q.2 ∈ r.2)∧tl'.length≤tl.dropLast.length + 1000 * j)
     ⟨_,_,_,[],tl.dropLast,rfl,gg9,g9 _ _ hkn8,g9 _ _ (kp8.1 _ _ hpp6),g9.seqT hx8,en9,g9 _ _ (l8 _ _ hlr7),fun x hx=>(nomatch hx),by simp,g9 _ _ (l8 _ _ (g7 _ _ (g6 _ _ htd5))),fun x hx=>⟨(ta6 x hx).1.mono fun a xs h=>g9.seqT (kp8.2 _ _ h),(ta6 x hx).2⟩,fun o ho=>ho,fun r hr=>by simp at hr,fun q hq=>.inl (List.mem_map_of_mem hq),by lia⟩ ?_ ?_ ?_
    ·rintro j σ H' _ ⟨_,_,_,_,_,_,gj,_⟩
     have hT':=hTu.same gj
     exact ⟨(hT'.wd.2 kd hkm).2.1,(hT'.mo _ hmm).2.1⟩
    ·rintro j u v p σ H' hu hv hp ⟨c8,c9,c10,rows,tl',rfl,gj,jkn,jpp,jxa,jen,jlr,jro,jsh,jtd,jta,j1,j2,j3,jl⟩
     have hj:j < kd.2.2.2.length:=by
      have:=(List.getElem?_eq_some_iff.mp hu).1
      rwa [List.length_map] at this
     have hjt:j < ms[i].2.2.2.2.length:=by lia
     obtain rfl:u=.ref kd.2.2.2[j].1:=by
      rw [List.getElem?_map,List.getElem?_eq_getElem hj] at hu
      exact (Option.some.inj hu).symm
     have hRj:RA'[j]?=some ((kd.2.2.2[j].2.1,kd.2.2.2[j].2.2.2),QG (46:) n ms[i].2.2.2.2[j] c.2.2):=by
      rw [erA,List.getElem?_map,List.getElem?_eq_getElem (by rw [List.length_zip];lia),List.getElem_zip];rfl
     have gp:=Qf hp (.tup [.ref kd.2.2.2[j].1,v])
     have g1':=gj.trans gp
     have hT1':=hTu.same g1'
     obtain ⟨r1,r2⟩:=(hT1'.wd.2 kd hkm).2.2 _ (List.getElem_mem hj)
     obtain ⟨cv,hcv,hct⟩:=(hT1'.mo _ hmm).2.2.get (List.getElem?_eq_getElem hjt)
     obtain rfl:cv=v:=Option.some.inj (hcv.symm.trans hv)
     refine ⟨p,_,rfl,SqT.of Qc,rfl,_,_,rfl,_,_,rfl,rfl,?_⟩
     refine ⟨_,rfl,_,rfl,_,rfl,xa,_,2,_,rfl,rfl,gp.seqT jxa,rfl,nm,lo,cv,c.2.2,ks,ms[i].2.2.2.2[j],rfl,hWo.same g1',hWG,hct,hO.tb _ hmm _ (List.getElem_mem hjt),hn3,hcd.2.2,fun la2 Ha l2 ga hn2 hl2 hA2 _=>?_⟩
     have hl2k:l2.length≤1000:=by
      have:=hmlA _ (List.getElem_mem hjt) c.2.2
      rw [← hA2.1,List.length_map] at this
      exact this
     have gpa:=gp.trans ga
     have nla:∀ a u,H' a=some u→a≠la2:=fun a u e=>Qk (gp _ _ e) hn2
     have hget:=DGet.t (gpa _ _ jkn) (gpa _ _ jpp)
     have efind:(es ++ [(dA c,lr,([]:List Xr))]).find? (fun e=>decide (e.1=dA c))=some (dA c,lr,[]):=by
      rw [List.find?_append,ef];simp
     rw [U5,efind] at hget
     refine ⟨_,rfl,_,rfl,kn,_,rfl,hget,.inl ⟨rfl,_,SqL.of (gpa _ _ jlr)⟩,_,rfl,_,rfl,(23:),fun pt hpt=>?_⟩
     have gt:=Qf hpt (.tup [.ref kd.2.2.2[j].1,.ref la2])
     have gpt:=gpa.trans gt
     have hro:rows.length=j:=by
      have:=congrArg List.length jsh
      rw [List.length_map,List.length_take] at this
      lia
     refine ⟨lr,_,_,rfl,rfl,gpt _ _ jlr,(by rw [List.length_map,Qz];lia),?_⟩
     have kb0:Kp K (39:) (upd (39:) lr (38:)):=Kp.put (gpt _ _ jlr)
     have hlb:upd (39:) lr (38:) lr=some (38:):=Qc
     have ob:∀ a u,a≠lr→H' a=some u→upd (39:) lr (38:) a=some u:=fun a u na e=>by rw [Qj na];exact gpt _ _ e
     have oa:∀ a u,a≠lr→Ha a=some u→upd (39:) lr (38:) a=some u:=fun a u na e=>by rw [Qj na];exact gt _ _ e
     have hptb:SqT K (upd (39:) lr (38:)) pt [.ref kd.2.2.2[j].1,.ref la2]:=kb0.2 _ _ (SqT.of Qc)
     generalize hHb:upd (39:) lr (38:)=Hb at kb0 hlb ob oa hptb
     have kb:Kp K H' Hb:=⟨fun a xs h=>kb0.1 _ _ (gpt _ _ h),fun a xs h=>kb0.2 _ _ (gpt.seqT h)⟩
     have kba:Kp K Ha Hb:=⟨fun a xs h=>kb0.1 _ _ (gt _ _ h),fun a xs h=>kb0.2 _ _ (gt.seqT h)⟩
     have nla2:la2≠lr:=fun z=>nla lr _ jlr z.symm
     have htdb:Hb td=some (.lst (tl'.map (·.1))):=ob td _ nt8 jtd
     have hl2b:=oa la2 _ nla2 hl2
     have ggb:Same H Hb:=fun b u e=>ob b u (Qk e hlrH) (gj _ _ e)
     refine ⟨_,rfl,.inl ⟨rfl,_,SqL.of htdb⟩,_,rfl,la2,rfl,⟨_,SqL.of hl2b⟩,fun acc hacc=>?_⟩
     have hA2b:=hA2.mono kba.2
     refine Yj (K:=K) (xs:=l2.map (·.1)) (cs:=[]) (te:=ZI 0) (fun j ys H'=>ys=(Q2 (l2.take j)).map (·.1)∧H' acc=some (.lst ys)∧Same Hb H') ⟨rfl,Qc,Qf hacc _⟩ ?_ ?_ ?_
     ·rintro j ys H' _ ⟨_,_,g⟩
      exact g.seq (SqL.of hl2b)
     ·rintro j2 y ys H' hj2 hy ⟨rfl,hya,g⟩
      have hjl:j2 < l2.length:=by simpa using hj2
      obtain rfl:y=l2[j2].1:=by
       rw [List.getElem?_map,List.getElem?_eq_getElem hjl] at hy
       exact (Option.some.inj hy).symm
      have hv:=hA2b.2 _ (List.getElem_mem hjl)
      have es:=somesS hjl
      cases eo:l2[j2].2 with
      | none =>
       rw [eo] at hv es
       have ev:l2[j2].1=.non:=hv
       rw [ev]
       refine ⟨_,rfl,rfl,_,rfl,Q3 (ZC hj2 ⟨?_,hya,g⟩)⟩
       rw [es];simp
      | some c =>
       rw [eo] at hv es
       obtain ⟨a,ev,ha⟩:=hv
       rw [ev]
       refine ⟨_,rfl,rfl,_,rfl,Q8 ⟨_,rfl,?_⟩⟩
       have hsl:(Q2 (l2.take j2)).length≤j2:=Nat.le_trans (List.length_filter_le _ _) (by rw [List.length_take];lia)
       refine QI hj2 hya (15:) ⟨?_,Qc,fun b u e=>?_⟩
       ·rw [es];simp [ev]
       ·rw [Qj (Qk e hacc)];exact g _ _ e
     rintro ys Hc ⟨rfl,haccc,gc⟩
     rw [List.length_map,List.take_length] at haccc
     have htdc:=gc _ _ htdb
     have hs2:(Q2 l2).length≤1000:=Nat.le_trans (List.length_filter_le _ _) hl2k
     refine ⟨td,acc,_,_,rfl,rfl,htdc,haccc,(by rw [List.length_map,List.length_map,Qz];lia),?_⟩
     have kc0:Kp K Hc (upd Hc td (.lst (tl'.map (·.1) ++ (Q2 l2).map (·.1)))):=Kp.put htdc
     have oc:∀ a u,a≠td→Hb a=some u→upd Hc td (.lst (tl'.map (·.1) ++ (Q2 l2).map (·.1))) a=some u:=fun a u na e=>by rw [Qj na];exact gc _ _ e
     have htdd:upd Hc td (.lst (tl'.map (·.1) ++ (Q2 l2).map (·.1))) td=some (.lst (tl'.map (·.1) ++ (Q2 l2).map (·.1))):=Qc
     generalize hHd:upd Hc td (.lst (tl'.map (·.1) ++ (Q2 l2).map (·.1)))=Hd at kc0 oc htdd
     have kc:Kp K Hb Hd:=⟨fun a xs h=>kc0.1 _ _ (gc _ _ h),fun a xs h=>kc0.2 _ _ (gc.seqT h)⟩
     have kd':Kp K H' Hd:=⟨fun a xs h=>kc.1 _ _ (kb.1 _ _ h),fun a xs h=>kc.2 _ _ (kb.2 _ _ h)⟩
     have od:∀ a xs,¬ (a=td∨a=lr)→H' a=some (.lst xs)→Hd a=some (.lst xs):=fun a xs nb e=>oc a _ (fun z=>nb (.inl z)) (ob a _ (fun z=>nb (.inr z)) e)
     have nlt:la2≠td:=fun z=>nla td _ jtd z.symm
     have hsd:=XL hA2b
     have etk:RA'.take (j + 1)=RA'.take j ++ [((kd.2.2.2[j].2.1,kd.2.2.2[j].2.2.2),QG (46:) n ms[i].2.2.2.2[j] c.2.2)]:=by rw [List.take_add_one,hRj];rfl
     refine ⟨_,_,_,rows ++ [(pt,kd.2.2.2[j].1,(kd.2.2.2[j].2.1,kd.2.2.2[j].2.2.2),la2,l2,QG (46:) n ms[i].2.2.2.2[j] c.2.2)],tl' ++ Q2 l2,rfl,fun b u e=>oc b u (Qk e htd0) (ggb _ _ e),oc kn _ nkt (ob kn _ hnl jkn),kd'.1 _ _ jpp,kd'.2 _ _ jxa,fun e he=>(jen e he).keep kd' od,?_,fun x hx=>?_,?_,?_,fun x hx=>?_,fun o ho=>?_,fun r hr c' hc'=>?_,fun x hx=>?_,?_⟩
     ·rw [List.map_append]
      exact oc lr _ (Ne.symm nt8) hlb
     ·rcases List.mem_append.mp hx with z | z
      ·exact (jro x z).keep kd' od
      ·obtain rfl:x=(pt,kd.2.2.2[j].1,(kd.2.2.2[j].2.1,kd.2.2.2[j].2.2.2),la2,l2,QG (rowK ks) n ms[i].2.2.2.2[j] c.2.2):=by simpa using z
       exact ⟨kc.2 _ _ hptb,⟨_,kc.2 _ _ (kba.2 _ _ (ga.seqT r1)),kc.2 _ _ (kba.2 _ _ (ga.seqT r2))⟩,oc la2 _ nlt hl2b,fun z=>z.elim nlt nla2,hA2b.mono kc.2⟩
     ·rw [List.map_append,jsh,etk];rfl
     ·rw [htdd,List.map_append]
     ·rcases List.mem_append.mp hx with z | z
      ·exact ⟨(jta x z).1.mono kd'.2,(jta x z).2⟩
      ·exact ⟨(hsd x z).1.mono kc.2,(hsd x z).2⟩
     ·rw [List.map_append];exact List.mem_append_left _ (j1 o ho)
     ·rw [List.map_append]
      rw [etk] at hr
      rcases List.mem_append.mp hr with z | z
      ·exact List.mem_append_left _ (j2 r z c' hc')
      ·rw [show r=_ by simpa using z] at hc'
       exact List.mem_append_right _ (Js hA2b hc')
     ·rcases List.mem_append.mp hx with z | z
      ·rcases j3 x z with y | ⟨r,y1,y2⟩
       ·exact .inl y
       ·exact .inr ⟨r,by rw [etk];exact List.mem_append_left _ y1,y2⟩
      ·exact .inr ⟨_,by rw [etk];exact List.mem_append_right _ List.mem_cons_self,JD hA2b x z⟩
     ·rw [List.length_append];lia
    ·rintro σ H' ⟨c8,c9,c10,rows,tl',rfl,gj,jkn,jpp,jxa,jen,jlr,jro,jsh,jtd,jta,j1,j2,j3,jl⟩
     rw [List.length_map] at jsh j2 j3 jl
     rw [List.take_of_length_le (11:)] at jsh j2 j3
     have emap:(es ++ [(dA c,lr,rows)]).map (·.1)=es.map (·.1) ++ [dA c]:=by rw [List.map_append];rfl
     have hrl10:kd.2.2.2.length≤10:=by lia
     refine ⟨(nm * ks.length - (es ++ [(dA c,lr,rows)]).length) * 10001 + tl'.length,?_,_,_,_,_,_,_,_,es ++ [(dA c,lr,rows)],tl',rfl,gj,⟨?_,jtd,fun e he=>?_,jta,fun x hx c' hc'=>?_,fun e he=>?_,?_,fun e he=>?_,fun c' hc'=>?_,fun d hd r hr c' hc'=>?_,fun S s1 s2=>?_⟩,rfl,?_⟩
     ·rw [List.length_append,List.length_singleton];lia
     ·rw [jkn];unfold knK;rw [List.map_append,List.map_append];rfl
     ·rcases List.mem_append.mp he with z | z
      ·exact (jen e z).bad fun a xs _ nb z=>nb (.inl z)
      ·obtain rfl:e=(dA c,lr,rows):=by simpa using z
       exact ⟨jlr,Ne.symm nt8,fun x hx=>⟨(jro x hx).1,(jro x hx).2.1,(jro x hx).2.2.1,fun z=>(jro x hx).2.2.2.1 (.inl z),(jro x hx).2.2.2.2⟩⟩
     ·rcases j3 x hx with z | ⟨r,z1,z2⟩
      ·obtain ⟨y,hy,ey⟩:=List.mem_map.mp z
       exact tk6 y hy c' (by rw [ey];exact hc')
      ·rw [erA] at z1
       obtain ⟨y,hy,rfl⟩:=List.mem_map.mp z1
       rw [hc'] at z2
       exact Vm hWG (hO.tb _ hmm _ (List.of_mem_zip hy).2) hcd.2.2 z2
     ·rcases List.mem_append.mp he with z | z
      ·exact W.dk e z
      ·obtain rfl:e=(dA c,lr,rows):=by simpa using z
       exact hcd
     ·rw [emap]
      exact List.nodup_append.mpr ⟨W.nd,by simp,fun a ha b hb=>by
       have:b=dA c:=by simpa using hb
       subst this
       exact fun z=>hni (by rw [← z];exact ha)⟩
     ·rcases List.mem_append.mp he with z | z
      ·exact W.rw e z
      ·obtain rfl:e=(dA c,lr,rows):=by simpa using z
       rw [hRA];exact jsh
     ·rw [emap]
      rcases W.st c' hc' with z | z
      ·exact .inl (List.mem_append_left _ z)
      ·rcases inTl z with y | y
       ·exact .inr (j1 _ y)
       ·obtain rfl:=Option.some.inj y
        exact .inl (List.mem_append_right _ List.mem_cons_self)
     ·rw [emap] at hd ⊢
      rcases List.mem_append.mp hd with z | z
      ·rcases W.go d z r hr c' hc' with z | z
       ·exact .inl (List.mem_append_left _ z)
       ·rcases inTl z with y | y
        ·exact .inr (j1 _ y)
        ·obtain rfl:=Option.some.inj y
         exact .inl (List.mem_append_right _ List.mem_cons_self)
      ·obtain rfl:d=dA c:=by simpa using z
       rw [hRA] at hr
       exact .inr (j2 r hr c' hc')
     ·obtain ⟨w1,w2⟩:=W.lt S s1 s2
      have hSc:=w2 _ hxm c rfl
      refine ⟨fun d hd=>?_,fun x hx c' hc'=>?_⟩
      ·rw [emap] at hd
       rcases List.mem_append.mp hd with z | z
       ·exact w1 d z
       ·obtain rfl:d=dA c:=by simpa using z
        exact hSc
      ·rcases j3 x hx with z | ⟨r,z1,z2⟩
       ·obtain ⟨y,hy,ey⟩:=List.mem_map.mp z
        exact w2 y (md hy) c' (by rw [ey];exact hc')
       ·rw [hc'] at z2
        exact s2 (dA c) hSc r (by rw [hRA];exact z1) c' z2
     ·rw [List.length_append,List.length_singleton];lia
 ·intro σ H Q Q' hm h
  obtain ⟨v1,h1,h2,h3⟩:=h
  refine ⟨v1,h1,h2,fun pe hpe=>?_⟩
  obtain ⟨d,e,z1,z2,z3,z4,z5,v,z6,z7⟩:=h3 pe hpe
  exact ⟨d,e,z1,z2,z3,z4,z5,v,z6,hm _ _ z7⟩
end
end K61
namespace K61
open PySem L2 TM TT K9 K11
abbrev L0s (f:RK) (n:Nat) (t0:Tm) (k1 k0:Str):List SI:=(its f n t0 k0 []).map fun i=>(⟨0,none,(S [],[k1])⟩,i)
section
variable {f:RK} {n:Nat} {rl:Dd→List (Rw × Tm)} {t0:Tm} {k1 k0:Str} {s:Stt} {j:Nat}
theorem JV {x:SI} (h:x ∈ L0s f n t0 k1 k0):x.2.2 ∈ QG f n t0 k0∧x.1=⟨0,none,(S [],[k1])⟩:=by
 obtain ⟨i,hi,rfl⟩:=List.mem_map.mp h
 exact ⟨List.mem_map_of_mem hi,rfl⟩
theorem GQ {o:Ak} (h:o ∈ QG f n t0 k0):∃ x ∈ L0s f n t0 k1 k0,x.2.2=o:=by
 obtain ⟨i,hi,rfl⟩:=List.mem_map.mp h
 exact ⟨_,List.mem_map_of_mem hi,rfl⟩
theorem Lb {N:Nat} {d:Dd} {x:SI} (h:x ∈ LB f n rl N d):∃ r ∈ Zr f n rl d,x.2.2 ∈ r.2∧x.1=⟨N,some d,r.1⟩:=by
 obtain ⟨q,hq,h⟩:=List.mem_flatMap.mp h
 obtain ⟨i,hi,rfl⟩:=List.mem_map.mp h
 exact ⟨_,List.mem_map_of_mem hq,List.mem_map_of_mem hi,rfl⟩
theorem V3 {N:Nat} {d:Dd} {r:Rw × List Ak} (h:r ∈ Zr f n rl d) {o:Ak} (ho:o ∈ r.2):∃ x ∈ LB f n rl N d,x.2.2=o∧x.1=⟨N,some d,r.1⟩:=by
 obtain ⟨q,hq,rfl⟩:=List.mem_map.mp h
 obtain ⟨i,hi,rfl⟩:=List.mem_map.mp ho
 exact ⟨(⟨N,some d,q.1⟩,i),List.mem_flatMap.mpr ⟨q,hq,List.mem_map_of_mem hi⟩,rfl,rfl⟩
structure Cl (f:RK) (n:Nat) (rl:Dd→List (Rw × Tm)) (t0:Tm) (k1 k0:Str) (s:Stt):Prop where
 nd:s.ds.Nodup
 up:∀ d ∈ s.ds,(nOf s d=0∧∃ c,some c ∈ QG f n t0 k0∧dA c=d)∨∃ d' ∈ s.ds,nOf s d=nOf s d' + 1∧∃ r ∈ Zr f n rl d',∃ c,some c ∈ r.2∧dA c=d
 st:∀ c,some c ∈ QG f n t0 k0→dA c ∈ s.ds∧nOf s (dA c)=0
 go:∀ d ∈ s.ds,∀ r ∈ Zr f n rl d,∀ c,some c ∈ r.2→dA c ∈ s.ds∧nOf s (dA c)≤nOf s d + 1
 f0:none ∈ QG f n t0 k0→Fl s.ft 1
 fg:∀ d ∈ s.ds,∀ r ∈ Zr f n rl d,none ∈ r.2→Fl s.ft (nOf s d + 1 + if 0 < r.1.2.length then 1 else 0)
 fs:∀ g,s.ft=some g→(g.1.lv=1∧none ∈ QG f n t0 k0)∨∃ d ∈ s.ds,∃ r ∈ Zr f n rl d,none ∈ r.2∧g.1.lv=nOf s d + 1 + if 0 < r.1.2.length then 1 else 0
theorem Bf.cl (B:Bf f n rl (L0s f n t0 k1 k0) j s) (hj:s.ds.length≤j):Cl f n rl t0 k1 k0 s:=by
 have idx:∀ d ∈ s.ds,∃ i,i < j∧s.ds[i]?=some d:=fun d hd=>by
  obtain ⟨i,hi,e⟩:=List.getElem_of_mem hd
  exact ⟨i,by lia,by rw [List.getElem?_eq_getElem hi,e]⟩
 refine ⟨B.nd,fun d hd=>?_,fun c hc=>?_,fun d hd r hr c hc=>?_,fun h=>?_,fun d hd r hr h=>?_,fun g hg=>?_⟩
 ·obtain ⟨q,hq,eq⟩:=Y2 hd
  have hn:=ZQ B.nd hq
  rw [eq] at hn
  rcases B.src q hq with z | ⟨d',hd',z⟩
  ·obtain ⟨z1,z2⟩:=JV z
   have z2:q.2.sp=⟨0,none,(S [],[k1])⟩:=z2
   refine .inl ⟨by rw [hn,z2],_,z1,?_⟩
   rw [← eq]
  ·obtain ⟨r,hr,z1,z2⟩:=Lb z
   have z2:q.2.sp=⟨nOf s d' + 1,some d',r.1⟩:=z2
   exact .inr ⟨d',hd',by rw [hn,z2],r,hr,_,z1,by rw [← eq]⟩
 ·obtain ⟨x,hx,e⟩:=GQ (k1:=k1) hc
  exact B.st x hx c e
 ·obtain ⟨i,hi,e⟩:=idx d hd
  obtain ⟨x,hx,e1,_⟩:=V3 (N:=nOf s d + 1) hr hc
  exact B.go i d hi e x hx c e1
 ·obtain ⟨x,hx,e⟩:=GQ (k1:=k1) h
  have:=B.f0 x hx e
  rw [(JV hx).2] at this
  exact this
 ·obtain ⟨i,hi,e⟩:=idx d hd
  obtain ⟨x,hx,e1,e2⟩:=V3 (N:=nOf s d + 1) hr h
  have:=B.fg i d hi e x hx e1
  rw [e2] at this
  exact this
 ·rcases B.fs g hg with z | ⟨d,hd,z⟩
  ·obtain ⟨z1,z2⟩:=JV z
   have z2:g.1=⟨0,none,(S [],[k1])⟩:=z2
   exact .inl ⟨by rw [z2];rfl,z1⟩
  ·obtain ⟨r,hr,z1,z2⟩:=Lb z
   have z2:g.1=⟨nOf s d + 1,some d,r.1⟩:=z2
   exact .inr ⟨d,hd,r,hr,z1,by rw [z2];rfl⟩
variable (C:Cl f n rl t0 k1 k0 s)
include C
theorem Cl.fewer:∀ (k:Nat) (d:Dd),d ∈ s.ds→nOf s d=k→∀ i≤k,i ∈ s.ds.map (nOf s)
 | 0,d,hd,e,i,hi=>List.mem_map.mpr ⟨d,hd,by lia⟩
 | k + 1,d,hd,e,i,hi=>by
  rcases Nat.lt_or_ge i (k + 1) with z | z
  ·rcases C.up d hd with ⟨h,_⟩ | ⟨d',hd',h,_⟩
   ·lia
   ·exact Cl.fewer k d' hd' (11:) i (11:)
  ·exact List.mem_map.mpr ⟨d,hd,by lia⟩
theorem Cl.low {d:Dd} (hd:d ∈ s.ds):nOf s d + 1≤s.ds.length:=by
 have:=Wi (l:=List.range (nOf s d + 1)) (r:=s.ds.map (nOf s)) List.nodup_range fun i hi=>C.fewer _ d hd rfl i (by have:=List.mem_range.mp hi;lia)
 rw [List.length_range,List.length_map] at this
 exact this
theorem Cl.bound {g:Spot × List Int} (e:s.ft=some g):g.1.lv≤s.ds.length + 1:=by
 rcases C.fs g e with ⟨z,_⟩ | ⟨d,hd,r,_,_,z⟩
 ·lia
 ·have:=C.low hd
  have:(if 0 < r.1.2.length then 1 else 0)≤1:=by split <;> lia
  lia
end
end K61
namespace K61
open PySem L2 TM TT K9 K11
def TmD (Pc:Int→Int→Prop):Nat→Tm→Prop
 | 0,_=>False
 | n + 1,t=>((∀ m b,lab t=.call m b→Pc m b)∧∀ nm kp ad,lab t=.put nm kp ad→PyData.strOk nm=true)∧t.bs.length≤5∧∀ x ∈ t.bs,TmD Pc n x
theorem TmD.tmB {Pc:Int→Int→Prop} {nm:Nat} (h:∀ m b,Pc m b→0≤m∧m < (nm:Int)):∀ {n:Nat} {t:Tm},TmD Pc n t→TmB nm n t
 | 0,_,z=>z.elim
 | n + 1,t,⟨h1,h2,h3⟩=>⟨fun m b e=>h m b (h1.1 m b e),by lia,fun x hx=>TmD.tmB h (h3 x hx)⟩
theorem TmD.mono {Pc Pd:Int→Int→Prop} (h:∀ m b,Pc m b→Pd m b):∀ {n:Nat} {t:Tm},TmD Pc n t→TmD Pd n t
 | 0,_,z=>z.elim
 | n + 1,t,⟨h1,h2,h3⟩=>⟨⟨fun m b e=>h m b (h1.1 m b e),h1.2⟩,h2,fun x hx=>TmD.mono h (h3 x hx)⟩
theorem TmD.its {Pc:Int→Int→Prop} {f:RK}:∀ {n:Nat} {t:Tm} {k:Str} {p:List Int},TmD Pc n t→∀ i ∈ K61.its f n t k p,i.1.length≤p.length + n∧∀ c,i.2=some c→Pc c.1 c.2.1
 | 0,_,_,_,z,_,_=>z.elim
 | n + 1,t,k,p,⟨h1,h2,h3⟩,i,hi=>by
  rw [K61.its] at hi
  cases el:lab t with
  | call m b =>
   rw [el] at hi
   obtain rfl:i=(p,some (m,b,k)):=by simpa using hi
   exact ⟨Nat.le_add_right _ _,fun c hc=>by obtain rfl:=Option.some.inj hc;exact h1.1 m b el⟩
  | put nm kp ad =>
   rw [el] at hi
   dsimp only at hi
   have bad:i=(p,none)→i.1.length≤p.length + (n + 1)∧∀ c,i.2=some c→Pc c.1 c.2.1:=fun e=>by
    subst e
    exact ⟨Nat.le_add_right _ _,fun c hc=>(nomatch hc)⟩
   cases er:f k nm with
   | none=>rw [er] at hi;exact bad (by simpa using hi)
   | some ss =>
    rw [er] at hi
    dsimp only at hi
    by_cases e:ss.length=t.bs.length
    ·rw [if_pos e] at hi
     obtain ⟨q,hq,hi⟩:=List.mem_flatMap.mp hi
     have hz:q.1 ∈ t.bs.zip ss:=by
      have:=List.mem_map_of_mem (f:=Prod.fst) hq
      rwa [List.zipIdx_map_fst] at this
     obtain ⟨g1,g2⟩:=TmD.its (h3 q.1.1 (List.of_mem_zip hz).1) i hi
     rw [List.length_append,List.length_singleton] at g1
     exact ⟨by lia,g2⟩
    ·rw [if_neg e] at hi;exact bad (by simpa using hi)
theorem Xj {α β:Type} {g:α→List β} {b:Nat}:∀ {l:List α},(∀ x ∈ l,(g x).length≤b)→(l.flatMap g).length≤l.length * b
 | [],_=>by simp
 | x :: l,h=>by
  rw [List.flatMap_cons,List.length_append,List.length_cons,Nat.succ_mul]
  have:=Xj (l:=l) fun y hy=>h y (List.mem_cons_of_mem _ hy)
  have:=h x List.mem_cons_self
  lia
theorem TmD.len {Pc:Int→Int→Prop} {f:RK}:∀ {n:Nat} {t:Tm} {k:Str},TmD Pc n t→(QG f n t k).length≤5 ^ n
 | 0,_,_,z=>z.elim
 | n + 1,t,k,⟨h1,h2,h3⟩=>by
  have h5:1≤5 ^ (n + 1):=Nat.one_le_pow _ _ (18:)
  cases el:lab t with
  | call m b =>
   unfold QG
   rw [K61.its,el]
   exact h5
  | put nm kp ad =>
   by_cases e:∃ ss,f k nm=some ss∧ss.length=t.bs.length
   ·obtain ⟨ss,er,e⟩:=e
    rw [XB el er e]
    refine Nat.le_trans (Xj (b:=5 ^ n) fun q hq=>TmD.len (h3 q.1 (List.of_mem_zip hq).1)) ?_
    rw [List.length_zip,Nat.pow_succ,Nat.mul_comm]
    exact Nat.mul_le_mul_left _ (11:)
   ·rw [Xh el e];exact h5
theorem Bf.gd {f:RK} {n:Nat} {rl:Dd→List (Rw × Tm)} {t0:Tm} {k1 k0:Str} {s:Stt} {j:Nat} {ks1:List KdT} (B:Bf f n rl (L0s f n t0 k1 k0) j s) (hn:n≤100) (hR0:UD ks1 (S [],[k1])) (hrow:∀ d,∀ q ∈ rl d,UD ks1 q.1∧TmD (fun _ b=>U9 (q.1,b)) n q.2) (ht0:TmD (fun _ b=>b=0) n t0):Gd ks1 (S [],[k1]) s:=by
 have one:∀ (x:SI),(x ∈ L0s f n t0 k1 k0∨∃ d ∈ s.ds,x ∈ LB f n rl (nOf s d + 1) d)→GX ks1 (S [],[k1]) s x.1∧x.2.1.length≤100∧∀ c,x.2.2=some c→U9 (x.1.row,c.2.1):=fun x hx=>by
  rcases hx with hx | ⟨d,hd,hx⟩
  ·obtain ⟨i,hi,rfl⟩:=List.mem_map.mp hx
   obtain ⟨g1,g2⟩:=ht0.its i hi
   refine ⟨⟨hR0,fun _=>⟨rfl,rfl⟩,fun d e=>(nomatch e)⟩,by show i.1.length≤100;simp only [List.length_nil] at g1;lia,fun c hc=>⟨0,g2 c hc,Nat.one_pos⟩⟩
  ·obtain ⟨q,hq,hx⟩:=List.mem_flatMap.mp hx
   obtain ⟨i,hi,rfl⟩:=List.mem_map.mp hx
   obtain ⟨r1,r2⟩:=hrow d q hq
   obtain ⟨g1,g2⟩:=r2.its i hi
   refine ⟨⟨r1,fun e=>(nomatch e),fun d' e=>?_⟩,by show i.1.length≤100;simp only [List.length_nil] at g1;lia,fun c hc=>g2 c hc⟩
   obtain rfl:=Option.some.inj e
   exact ⟨hd,rfl⟩
 refine ⟨B.nd,fun q hq=>?_,fun g hg=>?_⟩
 ·obtain ⟨h1,h2,h3⟩:=one (cI q) (B.src q hq)
  exact ⟨h1,h2,h3 _ rfl⟩
 ·obtain ⟨h1,h2,_⟩:=one (g.1,(g.2,none)) (B.fs g hg)
  exact ⟨h1,h2⟩
def OwC (bs:List Str) (ow:List (Str × Str)) (m b:Int):Prop:=∃ (i j:Nat) (o:Str × Str),m=(j:Int)∧b=(i:Int)∧ow[j]?=some o∧bs[i]?=some o.1
def Pf (K:PySem.W.Frag) (H:Hp) (lo:Addr) (ow:List (Addr × Str × Str)):Prop:=SqL K H lo (ow.map fun q=>V.ref q.1)∧∀ q ∈ ow,SqT K H q.1 [.str q.2.1,.str q.2.2]
abbrev ClT:=Addr × Int × Int × Str
def LV (K:PySem.W.Frag) (H:Hp) (c:ClT):Prop:=SqT K H c.1 [.int c.2.1,.int c.2.2.1,.str c.2.2.2]
def Xf (K:PySem.W.Frag):Sp:=fun vs H Q _=>∃ (lb lo:Addr) (bs:List Str) (ow:List (Addr × Str × Str)),vs=[.ref lb,.ref lo]∧SqT K H lb (bs.map V.str)∧Pf K H lo ow∧bs.length≤10∧ow.length≤10 ∧
 ∀ (lc:Addr) (H':Hp) (cs:List ClT),Same H H'→H lc=none→H' lc=some (.lst (cs.map fun c=>V.ref c.1))→(∀ c ∈ cs,LV K H' c∧OwC bs (ow.map (·.2)) c.2.1 c.2.2.1)→cs.length≤100→Q (.ref lc) H'
section
variable {P:Program} {w:World} {K:PySem.W.Frag} {mg:Str→Option Value} {base:Heap} {f:Addr} {fd:FuncData}
theorem Uk:FnScope ["_law_branches", "_law_owners", "_law_calls_here", "_law_branch_here", "_law_mode"] ["_law_branches", "_law_owners"] (defScope X9):=(1:)
theorem GW (F:Fun K "_law_calls" "_law_calls" X9 f fd) (G:Gm mg):FnOk P w K mg base CX0 1 f fd ["_law_branches", "_law_owners"] (Xf K):=by
 refine F.ok Uk (8:) (4:)
 ·obtain ⟨lb,lo,bs,ow,rfl,_⟩:=h
  rfl
 obtain ⟨lb,lo,bs,ow,rfl,hlb,hlo,hbl,hol,q⟩:=h
 refine ⟨_,(Qe (Ql (i:=2) Uk.nd rfl (7:) (QM Qd))
  (Qe (QL PassesOwn.never rfl (QU rfl G.rng (Qa (Qr Qn rfl G.len PySem.boot_len (Qa (pv 0) Qd)) Qd)) (Qq (i:=3) Uk.nd rfl (7:)) (Qh
   (QL PassesOwn.never rfl (QU rfl G.rng (Qa (Qr Qn rfl G.len PySem.boot_len (Qa (pv 1) Qd)) Qd)) (Qq (i:=4) Uk.nd rfl (7:)) (Qh
    (QF (Qp Q1 (Qi Qg (Qi Qx (pv 1) (pv 4) (3:)) Qb (3:)) (Qi Qg (pv 0) (pv 3) (3:)) (Qt _))
     (Qh (QJ (Zo PySem.F.plainAttrs_list PySem.F.slot_list_append PySem.F.type_list_append QR (pv 2) (Qa ((Qv (Qa (pv 4) (Qa (pv 3) (Qa (Qi Qg (Qi Qx (pv 1) (pv 4) (3:)) Qb (3:)) Qd))))) Qd)))) Qu)))))
  (Qh (Qo (pv 2))))),?_⟩
 refine ⟨(16:),fun lc hlc=>?_⟩
 have g0:=Qf hlc (.lst [])
 refine ⟨_,rfl,lb,_,rfl,.inr (g0.seqT hlb),_,rfl,(15:),(15:),?_⟩
 have eb:(((bs.map V.str).length:Nat):Int).toNat=bs.length:=by rw [List.length_map];lia
 have eo:(((ow.map fun q=>V.ref q.1).length:Nat):Int).toNat=ow.length:=by rw [List.length_map];lia
 refine Q7 (lo:=0) (fun i σ H'=>∃ (c3 c4:Option V) (cs:List ClT),σ=[some (.ref lb),some (.ref lo),some (.ref lc),c3,c4]∧Same H H'∧H' lc=some (.lst (cs.map fun c=>V.ref c.1))∧(∀ c ∈ cs,LV K H' c∧OwC bs (ow.map (·.2)) c.2.1 c.2.2.1)∧cs.length≤i * 10)
  ⟨_,_,[],rfl,g0,Qc,fun c hc=>(nomatch hc),Nat.zero_le _⟩ ?_ ?_
 ·rintro i σ H' hi ⟨c3,c4,cs,rfl,g,jlc,jcs,jl⟩
  have hib:i < bs.length:=by lia
  refine ⟨_,rfl,lo,_,rfl,.inl (g.seq hlo.1),_,rfl,(15:),(15:),?_⟩
  refine Q7 (lo:=0) (fun j σ H'=>∃ (c4:Option V) (cs':List ClT),σ=[some (.ref lb),some (.ref lo),some (.ref lc),some (.int (0 + (i:Int))),c4]∧Same H H'∧H' lc=some (.lst (cs'.map fun c=>V.ref c.1))∧(∀ c ∈ cs',LV K H' c∧OwC bs (ow.map (·.2)) c.2.1 c.2.2.1)∧cs'.length≤i * 10 + j)
   ⟨_,cs,rfl,g,jlc,jcs,by lia⟩ ?_ ?_
  ·rintro j σ H5 hj ⟨c4,cs',rfl,g5,hlc5,hcs5,hl5⟩
   have hjo:j < ow.length:=by lia
   have hmo:=List.getElem_mem hjo
   have hqj:=hlo.2 _ hmo
   have hatj:atI (ow.map fun q=>V.ref q.1) (0 + (j:Int))=some (.ref ow[j].1):=by rw [Int.zero_add];exact Qy (by rw [List.getElem?_map,List.getElem?_eq_getElem hjo];rfl)
   have hati:atI (bs.map V.str) (0 + (i:Int))=some (.str bs[i]):=by rw [Int.zero_add];exact Qy (by rw [List.getElem?_map,List.getElem?_eq_getElem hib];rfl)
   refine ⟨_,rfl,_,rfl,lo,_,_,_,rfl,rfl,g5.seq hlo.1,hatj,_,_,0,_,rfl,rfl,g5.seqT hqj,rfl,_,rfl,_,rfl,lb,_,_,_,rfl,rfl,g5.seqT hlb,hati,rfl,_,rfl,?_⟩
   by_cases he:ow[j].2.1=bs[i]
   ·refine Yr (by rw [he]) ?_
    refine ⟨_,rfl,.inl ⟨rfl,_,SqL.of hlc5⟩,_,rfl,_,rfl,_,rfl,_,rfl,lo,_,_,_,rfl,rfl,g5.seq hlo.1,hatj,_,_,1,_,rfl,rfl,g5.seqT hqj,rfl,(20:),fun p hp=>?_⟩
    have gp:=Qf hp (.tup [.int (0 + (j:Int)),.int (0 + (i:Int)),.str ow[j].2.2])
    refine ⟨lc,_,_,rfl,rfl,gp _ _ hlc5,(by rw [List.length_map,Qz];lia),?_⟩
    have kp:=Kp.put (K:=K) (o:=.lst (cs'.map (fun c=>V.ref c.1) ++ [.ref p])) (gp _ _ hlc5)
    refine ⟨_,cs' ++ [(p,0 + (j:Int),0 + (i:Int),ow[j].2.2)],rfl,fun b u e=>by rw [Qj (Qk e hlc)];exact gp _ _ (g5 _ _ e),by rw [Qc,List.map_append];rfl,fun c hc=>?_,by rw [List.length_append,List.length_singleton];lia⟩
    rcases List.mem_append.mp hc with z | z
    ·exact ⟨kp.2 _ _ (gp.seqT (hcs5 c z).1),(hcs5 c z).2⟩
    ·obtain rfl:c=(p,0 + (j:Int),0 + (i:Int),ow[j].2.2):=by simpa using z
     refine ⟨kp.2 _ _ (SqT.of Qc),i,j,ow[j].2,Int.zero_add _,Int.zero_add _,by rw [List.getElem?_map,List.getElem?_eq_getElem hjo];rfl,by rw [List.getElem?_eq_getElem hib,he]⟩
   ·exact ZP (fun z=>he (by injection z)) ⟨_,cs',rfl,g5,hlc5,hcs5,by lia⟩
  ·rintro σ H5 ⟨c4,cs',rfl,g5,hlc5,hcs5,hl5⟩
   rw [eo] at hl5
   exact ⟨_,_,cs',rfl,g5,hlc5,hcs5,by lia⟩
 ·rintro σ H' ⟨c3,c4,cs,rfl,g,jlc,jcs,jl⟩
  rw [eb] at jl
  exact ⟨_,rfl,q lc H' cs g hlc jlc jcs (11:)⟩
end
end K61
namespace L2
open PySem PySem.Spec PyProof.Rows
theorem Y0:fillsNumberSlot (.type "tuple") "mul" = pure false :=
 PySem.fillsNumberSlot_seq (id:="tuple.__mul__") (r:=some (.builtin "tuple.__rmul__")) F.slot_tuple_mul.lookup (0:) F.slot_tuple_rmul.lookup (0:)
theorem Xg:seqRepeat? (.type "tuple")=pure (some (.builtin "tuple.__mul__")):=by
 unfold seqRepeat?
 rw [PySem.seqSlot_of (T:="tuple") (name:="__mul__") (id:="tuple.__mul__") F.slot_tuple_mul.lookup (0:),PySem.seqSlot_of (T:="tuple") (name:="__rmul__") (id:="tuple.__rmul__") F.slot_tuple_rmul.lookup (0:)]
 rfl
theorem UW (a:Int) (t:Tok) (l:Addr) (items:Array Value) (n:Nat) (dd:Option Addr) (sl:Array (Option Value)) :
 Meets (Builtin.«int.__rmul__» ⟨[.int a t,.ref l],[]⟩) (fun _ R s=>s.heap.get? l=some { cls:=.type "tuple", dict:=dd,data:=.seq items n,slots:=sl }∧R (.ok (.ret Value.notImplemented)) s) :=
 .of_wp fun prog w A R s h=>by obtain ⟨hp,g,d,tk,os⟩:=s;obtain ⟨hl,h⟩:=h;wp_walk;exact ⟨_,rfl,h⟩
theorem Wo (l:Addr) (items:Array Value) (n:Nat) (dd:Option Addr) (sl:Array (Option Value)) (x:Int) (u:Tok) (h0:items.isEmpty=false) (h1:-(2 ^ 63)≤x) (h2:x < 2 ^ 63) (h3:items.size * x.toNat≤sizeLine) :
 Meets (Builtin.«tuple.__mul__» ⟨[.ref l,.int x u],[]⟩) (fun _ R s=>s.heap.get? l=some { cls:=.type "tuple", dict:=dd,data:=.seq items n,slots:=sl }∧(x=1→R (.ok (.ret (.ref l))) s)∧(x≠1→R (.ok (.ret (Value.ref s.heap.objs.size))) { s with heap:=s.heap.push { cls:=Value.type "tuple", data:=Data.seq (List.foldl (fun x1 x2=>x1 ++ x2) #[] (List.replicate x.toNat items)) } })) :=
 .of_wp fun prog w A R s h=>by
  obtain ⟨hp,g,d,tk,os⟩:=s;obtain ⟨hl,ha,hb⟩:=h
  have c1:¬ (decide (x < -2 ^ 63) || decide (x ≥ 2 ^ 63))=true:=by
   rw [decide_eq_false (11:),decide_eq_false (11:)];decide
  have hi:items.isEmpty=false:=h0
  by_cases x1:x=1
  ·subst x1
   have c2:(items.isEmpty || (1:Int) == 1)=true:=by simp
   wp_walk
   exact ⟨_,rfl,ha rfl⟩
  ·have c2:¬ (items.isEmpty || x == 1)=true:=by rw [hi];simpa using x1
   by_cases x0:x≤0
   ·have c3:(decide (x≤0) || items.isEmpty)=true:=by rw [decide_eq_true x0];rfl
    have e:x.toNat=0:=by lia
    have hb':=hb x1
    rw [e] at hb'
    wp_walk
    rw [if_neg c1]
    wp_walk
    exact ⟨_,rfl,hb'⟩
   ·have c3:¬ (decide (x≤0) || items.isEmpty)=true:=by rw [decide_eq_false x0,hi];decide
    have hl24:sizeLine=16777216:=by decide
    obtain ⟨y,rfl⟩ : ∃ y:Nat,x=(y:Int):=⟨x.toNat,by lia⟩
    have hy:items.size * y≤16777216:=by rw [← hl24];exact h3
    have hyy:(items.size:Int) * (y:Int)=((items.size * y:Nat):Int):=by simp
    have c4:¬ (items.size:Int) * (y:Int) > (2 ^ 63 - 1) / 8:=by rw [hyy];lia
    have c5:¬ Builtin.Tuple.tupleTooMany ((items.size:Int) * (y:Int))=true:=by rw [hyy];unfold Builtin.Tuple.tupleTooMany;simp;lia
    wp_walk
    rw [if_neg c1]
    wp_walk
    rw [if_neg c3]
    dsimp only
    rw [if_neg c4,if_neg c5]
    have hsz:(List.foldl (fun x1 x2=>x1 ++ x2) #[] (List.replicate ((y:Int)).toNat items)).size≤sizeLine:=by
     have f0:∀ (m:Nat) (acc:Array Value),(List.foldl (fun x1 x2=>x1 ++ x2) acc (List.replicate m items)).size=acc.size + m * items.size:=fun m=>by
      induction m with
      | zero=>intro acc;simp
      | succ m ih=>intro acc;rw [List.replicate_succ,List.foldl_cons,ih,Array.size_append,Nat.succ_mul];lia
     rw [f0,Int.toNat_natCast,hl24,Nat.mul_comm]
     simpa using hy
    have hb':=hb x1
    wp_walk
    rw [if_neg (Nat.not_lt.mpr hsz)]
    wp_walk
    exact ⟨_,rfl,hb'⟩
def On (K:PySem.W.Frag):R2:=fun x y H Q=>∃ l k xs,x=.ref l∧y=.int k∧SqT K H l xs∧xs≠[]∧-(2 ^ 63)≤k∧k < 2 ^ 63∧xs.length * k.toNat≤sizeLine ∧
 (k=1→Q (.ref l) H)∧(k≠1→∀ p,H p=none→Q (.ref p) (upd H p (.tup (List.replicate k.toNat xs).flatten)))
section
variable {X:Cx}
theorem Mn:OpR X (binaryOp .Mult) (On X.K):=by
 intro pins s σ H x y v u Q I rx ry h
 obtain ⟨l,k,xs,rfl,rfl,hH,hne,h1,h2,hz,q1,q2⟩:=h
 cases rx
 obtain ⟨t,rfl⟩:=ry
 obtain ⟨its,r,pl,_⟩:=I.tuple hH
 obtain ⟨⟨oc,od,oda,osl⟩,ho,hc,n,hd⟩:=pl
 simp only at hc hd
 subst hc;subst hd
 have hl:=r.length
 have h0:its.toArray.isEmpty=false:=by
  cases its with
  | nil=>exact absurd (r.nil_iff.mp rfl) hne
  | cons a b=>rfl
 have hnew:List.foldl (fun x1 x2=>x1 ++ x2) #[] (List.replicate k.toNat its.toArray)=(List.replicate k.toNat its).flatten.toArray:=by
  have:=JB its k.toNat []
  rw [List.nil_append] at this
  exact this
 refine wpAny_binaryOp_repeat_ref (T:="tuple") (U:="int") (18:) ⟨_,ho,rfl⟩ (fun s'=>typeIs_int s' k t) Y0 F.fills_int_mul F.slot_int_rmul Xg F.slot_int_index.lookup
  (call_meets F.slot_int_rmul (typeIs_int s k t) F.entry_int_rmul (F.args_int_rmul_2 _ _) (UW k t l its.toArray n od osl)
   ⟨ho,rfl,⟨_,ho,rfl⟩,call_meets F.slot_tuple_mul ⟨_,ho,rfl⟩ F.entry_tuple_mul (F.args_tuple_mul_2 _ _) (Wo l its.toArray n od osl k t h0 h1 h2 (by rw [List.size_toArray,← hl];exact hz)) ⟨ho,fun e=>⟨.ref l,H,I,rfl,q1 e⟩,fun e=>?_⟩⟩)
 rw [hnew]
 exact ⟨.ref s.heap.objs.size,_,I.laid (t':=s.toks) (o:=.tup (List.replicate k.toNat xs).flatten) (fun b ob q=>Heap.get?_push_of_some _ q) (9:) ⟨by rw [Ms,Nat.mul_comm];exact hz,_,r.rep k.toNat,IsTup.new _ _⟩,rfl,q2 e _ (I.hok.fresh (9:))⟩
end
end L2
namespace K61
open PySem L2 TM TT K9 K11
abbrev Nh:List Str:=["_law_cell", "_law_k", "_law_deep", "_law_kind", "_law_wood_here", "_law_calls_here", "_law_keep", "_law_names_here", "_law_number", "_law_fit", "_law_rows", "_law_full", "_law_name", "_law_branches", "_law_parts", "_law_j", "_law_kept", "_law_add"]
abbrev Yw:List Str:=["_law_cell", "_law_k", "_law_deep", "_law_kind", "_law_wood_here", "_law_calls_here", "_law_keep", "_law_names_here"]
def Z0 (K:PySem.W.Frag) (n:Nat):Sp:=fun vs H Q _=>∃ (c k:Int) (d:Nat) (kind:Str) (lw lc ln:Addr) (keep:Bool) (ks:List KdT) (cs:List ClT) (ns:List Str) (Pc:Int→Int→Prop),d + 1=n∧d≤3∧vs=[.int c,.int k,.int (d:Int),.str kind,.ref lw,.ref lc,.bl keep,.ref ln]∧0≤k∧(k + 1) * 6 ^ d≤1000∧WoodAt K H lw ks∧WF ks∧(∃ kd ∈ ks,kd.2.1=kind)∧SqL K H lc (cs.map fun c=>V.ref c.1)∧(∀ c ∈ cs,LV K H c∧Pc c.2.1 c.2.2.1)∧cs.length≤100∧SqL K H ln (ns.map V.str)∧ns.length=8∧(∀ x ∈ ns,PyData.strOk x=true) ∧
 ∀ (v:V) (H':Hp) (t:Tm),Same H H'→TmV K H' v t→TmD Pc n t→Q v H'
section
variable {P:Program} {w:World} {K:PySem.W.Frag} {mg:Str→Option Value} {base:Heap} {f:Addr} {fd:FuncData}
theorem QW:FnScope Nh Yw (defScope Z9):=(1:)
theorem GO {n:Nat} (F:Fun K "_law_loose" "_law_loose" Z9 f fd) (G:Gm mg) (RM:Fn P w K mg base 1 "_law_mixed" ["_law_cell", "_law_k"] ZX) (RG:Fn P w K mg base 1 "_law_great" ["_law_cell"] Ut) (R:Fn P w K mg base (n + 1) "_law_loose" Yw (Z0 K n)):FnOk P w K mg base CX0 (n + 2) f fd Yw (Z0 K (n + 1)):=by
 refine F.ok QW (8:) (4:)
 ·obtain ⟨c,k,d,kind,lw,lc,ln,keep,ks,cs,ns,Pc,_,_,rfl,_⟩:=h
  rfl
 obtain ⟨c,k,d,kind,lw,lc,ln,kp,ks,cs,ns,Pc,hdn,hd3,rfl,hk0,hk1,hW,hWF,hkind,hlc,hcs,hcl,hln,hnl,hnk,q⟩:=h
 have room:∀ m:Nat,m≤64→(A.deeper (PyProof.Rows.envOfC "_law_loose" (defScope Z9) s.heap.objs.size f cdv)).units + m < cLine:=fun m hm=>by have:=hr.units;lia
 refine ⟨_,(Qe (Ql (i:=8) QW.nd rfl (Or.inr rfl) (Qs RM hr (Qa (pv 0) (Qa (pv 1) Qd)) (Nat.le_add_left 1 n)))
  (Qe (ZY (i:=9) (CompG.many (xs:=["_law_call"]) (caps:=["_law_kind", "_law_number"]) (cap:=[3,8]) (cs:=[_,_]) rfl rfl (0:) (0:) (0:) (0:) (0:) (0:) rfl rfl rfl) rfl (QO (pv 5)) (Z4 (CompG.many (xs:=["_law_call"]) (caps:=["_law_kind", "_law_number"]) (cap:=[3,8]) (cs:=[_,_]) rfl rfl (0:) (0:) (0:) (0:) (0:) (0:) rfl rfl rfl)) (fun _ _ _ _=>UN (PW.pt (pw_or (Qp (r:=rEq) Q1 (Qi (r:=Mj K) Qg (pv 0) Qb (3:)) (pv 1) (Qt _)) (pw_or1 (Qp (r:=rEq) Q1 (Qm QD (pv 2) Qb) Qb (Qt _)))))) (fun _ _ _ _=>Zp (r:=N2 K) JI (pv 0) ZT (ZZ Qb)) QW.nd rfl rfl)
  (Qe (Yt (QF (PW.pt (pw_and (Qp Y5 (pv 9) (QM Qd) (Qt _)) (pw_and1 (Qp Jn (Qm QD (pv 8) Qb) Qb (Qt _))))) (Qh (Qo (Qm Yi (Qv (Qa (Zx) Qd)) (Qi Qx (pv 9) (Qm QD (Qm QT (pv 8) Qb) (Qr Qn rfl G.len PySem.boot_len (Qa (pv 9) Qd))) (3:))))) Qu))
  (Qe (ZY (i:=10) (CompG.many (xs:=["_law_row_here"]) (caps:=["_law_deep"]) (cap:=[2]) (cs:=[_]) rfl rfl (0:) (0:) (0:) (0:) (0:) (0:) rfl rfl rfl) rfl (QO (Zg (Ze hr) (QE (QZ rfl) rfl G.dct PyProof.Rows.boot_dict (Qa (pv 4) Qd)) (pv 3) (3:))) (Z4 (CompG.many (xs:=["_law_row_here"]) (caps:=["_law_deep"]) (cap:=[2]) (cs:=[_]) rfl rfl (0:) (0:) (0:) (0:) (0:) (0:) rfl rfl rfl)) (fun _ _ _ _=>UN (PW.pt (pw_or (Qp (r:=LC K (A.deeper (PyProof.Rows.envOfC "_law_loose" (defScope Z9) s.heap.objs.size f cdv)) false) Lc (Qi (r:=Mj K) Qg (pv 0) Qb (3:)) (Qv Qd) (Qt _)) (pw_or1 (Qp Ji (pv 1) Qb (Qt _)))))) (fun _ _ _ _=>pv 0) QW.nd rfl rfl)
  (Qe (ZY (i:=11) (CompG.many (xs:=["_law_row_here"]) (caps:=[]) (cap:=[]) (cs:=[]) rfl rfl (0:) (0:) (0:) (0:) (0:) (0:) rfl rfl rfl) rfl (QO (pv 10)) (Z4 (CompG.many (xs:=["_law_row_here"]) (caps:=[]) (cap:=[]) (cs:=[]) rfl rfl (0:) (0:) (0:) (0:) (0:) (0:) rfl rfl rfl)) (fun _ _ _ _=>UN (Qp (r:=LC K (A.deeper (PyProof.Rows.envOfC "_law_loose" (defScope Z9) s.heap.objs.size f cdv)) true) Y5 (Qi (r:=Mj K) Qg (pv 0) Qb (3:)) (Qv Qd) (Qt _))) (fun _ _ _ _=>pv 0) QW.nd rfl rfl)
  (Qe (Yt (QF (PW.pt (pw_and (Qp Y5 (pv 11) (QM Qd) (Qt _)) (pw_and1 (Qp Ji (Qm QD (Qm QT (pv 8) Qb) Qb) Qb (Qt _))))) (Qh (Ql (i:=10) QW.nd rfl (7:) (pv 11))) Qu))
  (Qe (JM (Qi Qx (pv 10) (Qm QD (Qm QT (pv 8) Qb) (Qr Qn rfl G.len PySem.boot_len (Qa (pv 10) Qd))) (3:)) (Zb rfl (Qw (Qq (i:=12) QW.nd rfl (7:)) (Qw (Qq (i:=13) QW.nd rfl (7:)) QX))))
  (Qe (Yt (QF (Qp Q1 (Qm QD (Qm QT (pv 8) Qb) Qb) Qb (Qt _)) (Qh (Ql (i:=12) QW.nd rfl (7:) (Qi Qx (pv 7) (Qm QD (Qm QT (pv 8) Qb) Qb) (3:)))) Qu))
  (Qe (Yt (QF (PW.pt (pw_and (Qp Ji (pv 2) Qb (Qt _)) (pw_and1 (Qp Q1 (Qm QD (Qm QT (pv 8) Qb) Qb) Qb (Qt _))))) (Qh (Ql (i:=13) QW.nd rfl (7:) (Qm Yi (pv 13) (Qm Mn (Qv (Qa (pv 3) Qd)) (Qm QK (Qm QD (Qm QT (pv 8) Qb) Qb) Qb))))) Qu))
  (Qe (Ql (i:=14) QW.nd rfl (7:) (QM Qd))
  (Qe (QL PassesOwn.never rfl (QU rfl G.rng (Qa (Qr Qn rfl G.len PySem.boot_len (Qa (pv 13) Qd)) Qd)) (Qq (i:=15) QW.nd rfl (7:)) (Qh
   (QJ (Zo PySem.F.plainAttrs_list PySem.F.slot_list_append PySem.F.type_list_append QR (pv 14) (Qa (Qs R hr (Qa (pv 0) (Qa (Qm QK (Qm QK (Qm ZR Qb (pv 1)) (pv 15)) Qb) (Qa (Qm ZS (pv 2) Qb) (Qa (Qi Qg (pv 13) (pv 15) (3:)) (Qa (pv 4) (Qa (pv 5) (Qa (pv 6) (Qa (pv 7) Qd)))))))) (9:)) Qd)))))
  (Qe (Yt (Ql (i:=16) QW.nd rfl (7:) (UI (pv 6) (UV (Z1 Q1 (Qm QD (Qm QT (pv 8) Qb) Qb) Qb (Qt _))))))
  (Qe (Yt (Ql (i:=17) QW.nd rfl (7:) (Qi Qx (QM (Qa (Qb) (Qa (Qm ZS (Qm QD (Qm QT (pv 8) Qb) Qb) Qb) (Qa (Qs RG hr (Qa (pv 0) Qd) (Nat.le_add_left 1 n)) Qd)))) (Qm QD (Qm QT (pv 8) Qb) Qb) (3:))))
  (Qh (Qo (Qv (Qa (Zx) (Qa (pv 12) (Qa (pv 16) (Qa (pv 17) (Qa (QE Zz rfl G.tup PyProof.Rows.boot_tuple (Qa (pv 14) Qd)) Qd))))))))))))))))))))),?_⟩
 have hk2:k≤1000:=by
  have:(1:Int)≤6 ^ d:=by
   rcases (show d=0∨d=1∨d=2∨d=3 by lia) with rfl | rfl | rfl | rfl <;> decide
  have:=Int.mul_le_mul_of_nonneg_left this (show (0:Int)≤k + 1 by lia)
  lia
 refine ⟨_,rfl,_,rfl,c,k,rfl,hk0,by lia,fun x x0 x1=>?_⟩
 refine ⟨_,rfl,lc,rfl,⟨_,hlc⟩,fun lf hlf=>?_⟩
 refine Yj (K:=K) (xs:=cs.map fun c=>V.ref c.1) (cs:=[some (.str kind),some (.int x)]) (fun j ys H'=>∃ fs:List (Addr × Int × Int),ys=fs.map (fun r=>V.ref r.1)∧H' lf=some (.lst ys)∧Same H H'∧(∀ r ∈ fs,SqT K H' r.1 [.int r.2.1,.int r.2.2]∧Pc r.2.1 r.2.2)∧fs.length≤j) ⟨[],rfl,Qc,Qf hlf _,fun r hr=>(nomatch hr),Nat.le_refl _⟩ ?_ ?_ ?_
 ·rintro j ys H' _ ⟨_,_,_,g,_⟩
  exact g.seq hlc
 ·rintro j y ys H' hj hy ⟨fs,rfl,hya,g,hfs,hfl⟩
  have hjc:j < cs.length:=by simpa using hj
  obtain rfl:y=.ref cs[j].1:=by
   rw [List.getElem?_map,List.getElem?_eq_getElem hjc] at hy
   exact (Option.some.inj hy).symm
  obtain ⟨hc1,hc2⟩:=hcs _ (List.getElem_mem hjc)
  have hc1:=g.seqT hc1
  have take:∀ p,H' p=none→Same H' (40:)→∃ fs':List (Addr × Int × Int),fs.map (fun r=>V.ref r.1) ++ [V.ref p]=fs'.map (fun r=>V.ref r.1)∧upd (40:) lf (.lst (fs.map (fun r=>V.ref r.1) ++ [V.ref p])) lf=some (.lst (fs.map (fun r=>V.ref r.1) ++ [V.ref p]))∧Same H (upd (40:) lf (.lst (fs.map (fun r=>V.ref r.1) ++ [V.ref p])))∧(∀ r ∈ fs',SqT K (upd (40:) lf (.lst (fs.map (fun r=>V.ref r.1) ++ [V.ref p]))) r.1 [.int r.2.1,.int r.2.2]∧Pc r.2.1 r.2.2)∧fs'.length≤j + 1:=fun p hp gp=>by
   have kp:=Kp.put (K:=K) (o:=.lst (fs.map (fun r=>V.ref r.1) ++ [V.ref p])) (gp _ _ hya)
   refine ⟨fs ++ [(p,cs[j].2.1,cs[j].2.2.1)],by rw [List.map_append];rfl,Qc,fun b u e=>by rw [Qj (Qk e hlf)];exact gp _ _ (g _ _ e),fun r hr=>?_,by rw [List.length_append,List.length_singleton];lia⟩
   rcases List.mem_append.mp hr with z | z
   ·exact ⟨kp.2 _ _ (gp.seqT (hfs r z).1),(hfs r z).2⟩
   ·rw [show r=(p,cs[j].2.1,cs[j].2.2.1) by simpa using z]
    exact ⟨kp.2 _ _ (SqT.of Qc),hc2⟩
  refine ⟨_,rfl,cs[j].1,_,2,_,rfl,rfl,hc1,rfl,_,rfl,rfl,_,rfl,Yl (fun cb=>?_) (fun cb=>?_)⟩
  ·refine Q8 ⟨_,rfl,2,rfl,cs[j].1,_,rfl,hc1,(by show ¬ (HT.sIx 3 0 none=0∧HT.sIx 3 3 (some 2)=3);decide),fun p hp=>?_⟩
   exact QI hj ((Qf hp _) _ _ hya) (15:) (take p hp (Qf hp _))
  ·refine ⟨_,rfl,_,_,rfl,rfl,(by show (0:Int) < 97;decide),rfl,_,rfl,Yl (fun cd=>?_) (fun cd=>?_)⟩
   ·refine ⟨_,rfl,2,rfl,cs[j].1,_,rfl,hc1,(by show ¬ (HT.sIx 3 0 none=0∧HT.sIx 3 3 (some 2)=3);decide),fun p hp=>?_⟩
    exact QI hj ((Qf hp _) _ _ hya) (15:) (take p hp (Qf hp _))
   ·exact ZC hj ⟨fs,rfl,hya,g,hfs,by lia⟩
 rintro ys H1 ⟨gs,rfl,hlf1,g1,hgs,hgl⟩
 refine ⟨fun σ' H'=>σ'=[some (.int c),some (.int k),some (.int (d:Int)),some (.str kind),some (.ref lw),some (.ref lc),some (.bl kp),some (.ref ln),some (.int x),some (.ref lf),none,none,none,none,none,none,none,none]∧Same H H',?_,?_⟩
 ·refine ⟨_,rfl,(16:),fun pe hpe=>?_⟩
  have ge:=Qf hpe (.lst [])
  have rdg:∀ l:List (Addr × Int × Int),(∀ r ∈ l,r ∈ gs)→RdAll K (upd H1 pe (.lst [])) (l.map fun r=>V.ref r.1) (l.map fun r=>PyData.tuple [.int r.2.1,.int r.2.2]):=fun l=>by
   induction l with
   | nil=>intro _;exact .nil
   | cons r l ih=>intro h;exact .cons (.tup (ge.seqT (hgs r (h r List.mem_cons_self)).1) (.cons (.int _) (.cons (.int _) .nil))) (ih fun x hx=>h x (List.mem_cons_of_mem _ hx))
  have layg:∀ l:List (Addr × Int × Int),PyData.canLayAll0 (l.map fun r=>PyData.tuple [.int r.2.1,.int r.2.2])=true:=fun l=>by
   induction l with
   | nil=>simp [PyData.canLayAll0]
   | cons r l ih=>simp only [List.map_cons,PyData.canLayAll0,PyData.canLay0,Bool.and_self,Bool.true_and];exact ih
  refine ⟨PyData.list (gs.map fun r:Addr × Int × Int=>PyData.tuple [.int r.2.1,.int r.2.2]),.list [],.lst (ge.seq (SqL.of hlf1)) (rdg gs fun r hr=>hr),.lst (SqL.of Qc) .nil,(by simp only [PyData.canLay0];exact layg gs),by simp [PyData.canLay0,PyData.canLayAll0],room _ (34:),_,rfl,?_⟩
  rw [if_pos rfl,Uy]
  have g2:=g1.trans ge
  by_cases hge:gs=[]
  ·rw [hge]
   exact Q3 ⟨rfl,g2⟩
  ·have e0:(!(gs.map fun r:Addr × Int × Int=>PyData.tuple [.int r.2.1,.int r.2.2]).isEmpty)=true:=by
    cases gs with
    | nil=>exact absurd rfl hge
    | cons a b=>rfl
   rw [e0]
   refine Q8 ⟨_,rfl,_,_,rfl,rfl,(by show (0:Int) < 5;decide),_,_,rfl,rfl,_,rfl,Yl (fun _=>?_) (fun _=>⟨rfl,g2⟩)⟩
   refine ⟨(35:),fun p hp=>?_⟩
   have gp:=Qf hp (.tup [.str (Str.ofString "call")])
   have hlf2:=gp _ _ (ge _ _ hlf1)
   have hzl:(gs.map fun r=>V.ref r.1).length=gs.length:=List.length_map ..
   obtain ⟨y,hy,hat⟩:=ZV (xs:=gs.map fun r=>V.ref r.1) (k:=((gs.map fun r=>V.ref r.1).length:Int)) rfl (by rw [hzl];exact List.length_pos_iff.mpr hge) (x / 5)
   obtain ⟨r,hr,rfl⟩:=List.mem_map.mp hy
   have hgp:0 < gs.length:=List.length_pos_iff.mpr hge
   refine ⟨_,rfl,_,rfl,_,_,rfl,rfl,(21:),_,rfl,lf,_,rfl,.inl (SqL.of hlf2),_,_,rfl,rfl,(by rw [hzl];lia),lf,_,_,_,rfl,rfl,SqL.of hlf2,hat,p,r.1,_,_,rfl,rfl,SqT.of Qc,(ge.trans gp).seqT (hgs r hr).1,(by show 1 + 2≤sizeLine;decide),fun p2 H3 g3 hp2=>?_⟩
   exact q _ H3 (leaf r.2.1 r.2.2) (g2.trans (gp.trans g3)) (.call hp2) (by
    rw [← hdn]
    exact ⟨⟨fun m b e=>by injection e with e1 e2;rw [← e1,← e2];exact (hgs r hr).2,fun nm kp ad e=>by cases e⟩,Nat.zero_le _,fun x hx=>(nomatch hx)⟩)
 rintro σ H2 ⟨rfl,g2⟩
 obtain ⟨kd,hkf,erow,hkm⟩:=QV hkind
 have hW2:=hW.same g2
 refine ⟨_,rfl,lw,wts ks,rfl,wdA hW2,wdB hW2,wdC hWF.ok,wdD hWF.ok,fun dd hdd=>⟨_,rfl,dd,.ref kd.2.2.1,rfl,UB Qc hkf,?_⟩⟩
 have g3':=Qf hdd (.dK (wkv ks))
 have g3:=g2.trans g3'
 generalize upd H2 dd (.dK (wkv ks))=H3 at g3
 have hW3:=hW.same g3
 have hR3:=(hW3.2 kd hkm).2
 have hro:=(hWF.kf kd hkm).ok
 have hrl:=hro.len
 have h3w:=(hWF.kf kd hkm).w3
 obtain ⟨rb,hrb,erb⟩:=(hWF.kf kd hkm).bare
 refine ⟨kd.2.2.1,rfl,⟨_,hR3.1⟩,fun lr hlr=>?_⟩
 refine Yj (K:=K) (xs:=kd.2.2.2.map fun t=>V.ref t.1) (cs:=[some (.int (d:Int))]) (te:=ZI 0) (fun j ys H'=>∃ us:List PNx,ys=us.map (fun r=>V.ref r.1)∧H' lr=some (.lst ys)∧Same H3 H'∧(∀ r ∈ us,r ∈ kd.2.2.2)∧us.length≤j∧(∀ r ∈ kd.2.2.2.take j,r.2.2.2=[]→r ∈ us)∧(d=0→∀ r ∈ us,r.2.2.2=[]))
  ⟨[],rfl,Qc,Qf hlr _,fun r hr=>(nomatch hr),Nat.le_refl _,fun r hr=>by simp at hr,fun _ r hr=>(nomatch hr)⟩ ?_ ?_ ?_
 ·rintro j ys H' _ ⟨_,_,_,g,_⟩
  exact g.seq hR3.1
 ·rintro j y ys H8 hj hy ⟨us,rfl,hya,g8,hus,hul,hub,hu0⟩
  have hjr:j < kd.2.2.2.length:=by simpa using hj
  obtain rfl:y=.ref kd.2.2.2[j].1:=by
   rw [List.getElem?_map,List.getElem?_eq_getElem hjr] at hy
   exact (Option.some.inj hy).symm
  have hjm:=List.getElem_mem hjr
  obtain ⟨hr1,hr2⟩:=hR3.2 _ hjm
  refine ⟨_,rfl,kd.2.2.2[j].1,_,1,_,rfl,rfl,g8.seqT hr1,rfl,(16:),fun pt hpt=>?_⟩
  have kt:=Qf hpt (.tup [])
  have lay1:(PyData.tuple (kd.2.2.2[j].2.2.2.map PyData.str)).canLay0=true:=by simp only [PyData.canLay0];exact Ye _ (hro.kn _ hjm)
  refine ⟨_,.tuple [],.tup ((g8.trans kt).seqT hr2) (YD _),.tup (SqT.of Qc) .nil,lay1,by simp [PyData.canLay0,PyData.canLayAll0],room _ (34:),_,rfl,?_⟩
  rw [if_neg Bool.false_ne_true,GF]
  have take:(d=0→kd.2.2.2[j].2.2.2=[])→W3 (kd.2.2.2.map fun t=>V.ref t.1).length (fun j ys H'=>∃ us:List PNx,ys=us.map (fun r=>V.ref r.1)∧H' lr=some (.lst ys)∧Same H3 H'∧(∀ r ∈ us,r ∈ kd.2.2.2)∧us.length≤j∧(∀ r ∈ kd.2.2.2.take j,r.2.2.2=[]→r ∈ us)∧(d=0→∀ r ∈ us,r.2.2.2=[])) lr j ((kd.2.2.2.map fun t=>V.ref t.1).length - j) (.ref kd.2.2.2[j].1) (upd H8 pt (.tup [])):=fun h0=>by
   refine QI (ys:=us.map fun r=>V.ref r.1) hj (kt _ _ hya) (15:) ⟨us ++ [kd.2.2.2[j]],by rw [List.map_append];rfl,Qc,fun z u e=>?_,fun r hr=>?_,by rw [List.length_append,List.length_singleton];lia,fun r hr he=>?_,fun hd r hr=>?_⟩
   ·rw [Qj (Qk e hlr)];exact kt _ _ (g8 _ _ e)
   ·rcases List.mem_append.mp hr with hr | hr
    ·exact hus r hr
    ·have:r=kd.2.2.2[j]:=by simpa using hr
     rw [this];exact hjm
   ·rw [List.take_add_one,List.getElem?_eq_getElem hjr] at hr
    rcases List.mem_append.mp hr with hr | hr
    ·exact List.mem_append_left _ (hub r hr he)
    ·exact List.mem_append_right _ (by simpa using hr)
   ·rcases List.mem_append.mp hr with hr | hr
    ·exact hu0 hd r hr
    ·have:r=kd.2.2.2[j]:=by simpa using hr
     rw [this];exact h0 hd
  refine Yl (fun cb=>?_) (fun cb=>?_)
  ·have ce:kd.2.2.2[j].2.2.2=[]:=by simpa using cb
   exact Q8 ⟨_,rfl,take fun _=>ce⟩
  ·refine ⟨_,rfl,_,_,rfl,rfl,_,rfl,Yl (fun cd=>?_) (fun cd=>?_)⟩
   ·have hd0:(d:Int) > 0:=of_decide_eq_true cd
    exact ⟨_,rfl,take fun z=>by lia⟩
   ·refine ZC hj ⟨us,rfl,kt _ _ hya,g8.trans kt,hus,by lia,fun r hr he=>?_,hu0⟩
    rw [List.take_add_one,List.getElem?_eq_getElem hjr] at hr
    rcases List.mem_append.mp hr with hr | hr
    ·exact hub r hr he
    ·have:r=kd.2.2.2[j]:=by simpa using hr
     rw [this] at he
     rw [he] at cb
     exact absurd rfl cb
 rintro ys H4 ⟨us,rfl,hlr4,g4,hus,hul,hub,hu0⟩
 rw [List.length_map] at hul hub
 rw [List.take_length] at hub
 have hune:us≠[]:=fun z=>by have:=hub rb hrb erb;rw [z] at this;cases this
 have g34:=g3.trans g4
 have hR4:∀ H',Same H4 H'→∀ r ∈ us,RowAt K H' r:=fun H' g r hr=>((hW.same (g34.trans g)).2 kd hkm).2.2 r (hus r hr)
 refine ⟨_,rfl,lr,rfl,⟨_,SqL.of hlr4⟩,fun lq hlq=>?_⟩
 refine Yj (K:=K) (xs:=us.map fun t=>V.ref t.1) (cs:=[]) (te:=ZI 0) (fun j ys H'=>∃ fs:List PNx,ys=fs.map (fun r=>V.ref r.1)∧H' lq=some (.lst ys)∧Same H4 H'∧(∀ r ∈ fs,r ∈ us)∧fs.length≤j)
  ⟨[],rfl,Qc,Qf hlq _,fun r hr=>(nomatch hr),Nat.le_refl _⟩ ?_ ?_ ?_
 ·rintro j ys H' _ ⟨_,_,_,g,_⟩
  exact SqL.of (g _ _ hlr4)
 ·rintro j y ys H8 hj hy ⟨fs,rfl,hya,g8,hfs,hfl⟩
  have hjr:j < us.length:=by simpa using hj
  obtain rfl:y=.ref us[j].1:=by
   rw [List.getElem?_map,List.getElem?_eq_getElem hjr] at hy
   exact (Option.some.inj hy).symm
  have hjm:=List.getElem_mem hjr
  obtain ⟨hr1,hr2⟩:=hR4 _ g8 _ hjm
  refine ⟨_,rfl,us[j].1,_,1,_,rfl,rfl,hr1,rfl,(16:),fun pt hpt=>?_⟩
  have kt:=Qf hpt (.tup [])
  have lay1:(PyData.tuple (us[j].2.2.2.map PyData.str)).canLay0=true:=by simp only [PyData.canLay0];exact Ye _ (hro.kn _ (hus _ hjm))
  refine ⟨_,.tuple [],.tup (kt.seqT hr2) (YD _),.tup (SqT.of Qc) .nil,lay1,by simp [PyData.canLay0,PyData.canLayAll0],room _ (34:),_,rfl,?_⟩
  refine Yl (fun cb=>?_) (fun cb=>?_)
  ·refine ⟨_,rfl,QI (ys:=fs.map fun r=>V.ref r.1) hj (kt _ _ hya) (15:) ⟨fs ++ [us[j]],by rw [List.map_append];rfl,Qc,fun z u e=>?_,fun r hr=>?_,by rw [List.length_append,List.length_singleton];lia⟩⟩
   ·rw [Qj (Qk e hlq)];exact kt _ _ (g8 _ _ e)
   ·rcases List.mem_append.mp hr with hr | hr
    ·exact hfs r hr
    ·have:r=us[j]:=by simpa using hr
     rw [this];exact hjm
  ·exact ZC hj ⟨fs,rfl,kt _ _ hya,g8.trans kt,hfs,by lia⟩
 rintro ys H5 ⟨fs,rfl,hlq5,g5,hfs,hfl⟩
 have g35:=g34.trans g5
 refine ⟨fun σ' H'=>Same H5 H'∧∃ (lz:Addr) (zs:List PNx),σ'=[some (.int c),some (.int k),some (.int (d:Int)),some (.str kind),some (.ref lw),some (.ref lc),some (.bl kp),some (.ref ln),some (.int x),some (.ref lf),some (.ref lz),some (.ref lq),none,none,none,none,none,none]∧H' lz=some (.lst (zs.map fun r=>V.ref r.1))∧zs≠[]∧(∀ r ∈ zs,r ∈ us),?_,?_⟩
 ·refine ⟨_,rfl,(16:),fun le hle=>?_⟩
  have ke:=Qf hle (.lst [])
  have layr:(PyData.list (fs.map Zy)).canLay0=true:=by
   simp only [PyData.canLay0]
   exact UM (fun r hr=>hro.nm r (hus r (hfs r hr))) fun r hr=>hro.kn r (hus r (hfs r hr))
  refine ⟨.list (fs.map Zy),.list [],.lst (SqL.of (ke _ _ hlq5)) (JH fun r hr=>hR4 _ (g5.trans ke) r (hfs r hr)),.lst (SqL.of Qc) .nil,layr,by simp [PyData.canLay0,PyData.canLayAll0],room _ (34:),_,rfl,?_⟩
  rw [if_pos rfl,Uy]
  have keep:∀ H',H'=upd H5 le (.lst [])→Same H5 H'∧∃ (lz:Addr) (zs:List PNx),[some (V.int c),some (.int k),some (.int (d:Int)),some (.str kind),some (.ref lw),some (.ref lc),some (.bl kp),some (.ref ln),some (.int x),some (.ref lf),some (.ref lr),some (.ref lq),none,none,none,none,none,none]=[some (V.int c),some (.int k),some (.int (d:Int)),some (.str kind),some (.ref lw),some (.ref lc),some (.bl kp),some (.ref ln),some (.int x),some (.ref lf),some (.ref lz),some (.ref lq),none,none,none,none,none,none]∧H' lz=some (.lst (zs.map fun r=>V.ref r.1))∧zs≠[]∧(∀ r ∈ zs,r ∈ us):=by
   rintro _ rfl
   exact ⟨ke,lr,us,rfl,ke _ _ (g5 _ _ hlr4),hune,fun r hr=>hr⟩
  by_cases hfe:fs=[]
  ·rw [hfe]
   exact Q3 (keep _ rfl)
  ·have e0:(!(fs.map Zy).isEmpty)=true:=by
    cases fs with
    | nil=>exact absurd rfl hfe
    | cons a b=>rfl
   rw [e0]
   refine Q8 ⟨_,rfl,_,_,rfl,rfl,(21:),_,_,rfl,rfl,(by show (0:Int) < 4;decide),_,_,rfl,rfl,_,rfl,Yl (fun _=>?_) (fun _=>?_)⟩
   ·exact ⟨_,rfl,ke,lq,fs,rfl,ke _ _ hlq5,hfe,hfs⟩
   ·exact keep _ rfl
 rintro σ H6 ⟨g6,lz,zs,rfl,hlz,hzne,hzs⟩
 have g36:=g35.trans g6
 have hzl:(zs.map fun r=>V.ref r.1).length=zs.length:=List.length_map ..
 have hzp:0 < zs.length:=List.length_pos_iff.mpr hzne
 obtain ⟨y,hy,hat⟩:=ZV (xs:=zs.map fun r=>V.ref r.1) (k:=((zs.map fun r=>V.ref r.1).length:Int)) rfl (by rw [hzl];exact hzp) (x / 8192)
 obtain ⟨r,hrz,rfl⟩:=List.mem_map.mp hy
 have hru:=hzs r hrz
 have hrk:=hus r hru
 obtain ⟨hr1,hr2⟩:=hR4 _ (g5.trans g6) r hru
 refine ⟨_,rfl,_,rfl,_,_,rfl,rfl,(21:),_,rfl,lz,_,rfl,.inl (SqL.of hlz),_,_,rfl,rfl,(by rw [hzl];lia),lz,_,_,_,rfl,rfl,SqL.of hlz,hat,r.1,_,rfl,hr1,rfl,_,_,rfl,_,_,rfl,rfl,?_⟩
 refine ⟨fun σ' H'=>Same H6 H'∧∃ nz:Str,PyData.strOk nz=true∧σ'=[some (.int c),some (.int k),some (.int (d:Int)),some (.str kind),some (.ref lw),some (.ref lc),some (.bl kp),some (.ref ln),some (.int x),some (.ref lf),some (.ref lz),some (.ref lq),some (.str nz),some (.ref r.2.2.1),none,none,none,none],?_,?_⟩
 ·refine ⟨_,rfl,_,_,rfl,rfl,(21:),_,_,rfl,rfl,(by show (0:Int) < 16;decide),rfl,_,rfl,Yl (fun _=>?_) (fun _=>⟨Same.refl _,r.2.1,(hWF.kf kd hkm).ok.nm r hrk,rfl⟩)⟩
  obtain ⟨y,hy,hat⟩:=ZV (xs:=ns.map V.str) (k:=8) (by rw [List.length_map,hnl];rfl) (by rw [List.length_map,hnl];decide) (x / 256)
  obtain ⟨nz,hnz,rfl⟩:=List.mem_map.mp hy
  exact ⟨_,rfl,_,rfl,_,_,rfl,rfl,(21:),_,_,rfl,rfl,(by show (0:Int) < 8;decide),ln,_,_,_,rfl,rfl,g36.seq hln,hat,Same.refl _,nz,hnk nz hnz,rfl⟩
 rintro σ H6a ⟨g6a,nz,hnz,rfl⟩
 refine ⟨fun σ' H'=>Same H6 H'∧∃ (ba:Addr) (ss:List Str),σ'=[some (.int c),some (.int k),some (.int (d:Int)),some (.str kind),some (.ref lw),some (.ref lc),some (.bl kp),some (.ref ln),some (.int x),some (.ref lf),some (.ref lz),some (.ref lq),some (.str nz),some (.ref ba),none,none,none,none]∧SqT K H' ba (ss.map V.str)∧ss.length≤5∧(∀ s ∈ ss,∃ k ∈ ks,k.2.1=s)∧(d=0→ss=[]),?_,?_⟩
 ·have hbl:=h3w r hrk
  have hkin:∀ s ∈ r.2.2.2,∃ k ∈ ks,k.2.1=s:=fun s hs=>by
   obtain ⟨k',hk',e'⟩:=List.mem_map.mp ((hWF.kf kd hkm).cl r hrk s hs)
   exact ⟨k',hk',e'⟩
  have stay:Same H6 H6a∧∃ (ba:Addr) (ss:List Str),[some (V.int c),some (.int k),some (.int (d:Int)),some (.str kind),some (.ref lw),some (.ref lc),some (.bl kp),some (.ref ln),some (.int x),some (.ref lf),some (.ref lz),some (.ref lq),some (.str nz),some (.ref r.2.2.1),none,none,none,none]=[some (V.int c),some (.int k),some (.int (d:Int)),some (.str kind),some (.ref lw),some (.ref lc),some (.bl kp),some (.ref ln),some (.int x),some (.ref lf),some (.ref lz),some (.ref lq),some (.str nz),some (.ref ba),none,none,none,none]∧SqT K H6a ba (ss.map V.str)∧ss.length≤5∧(∀ s ∈ ss,∃ k ∈ ks,k.2.1=s)∧(d=0→ss=[]):=⟨g6a,_,r.2.2.2,rfl,g6a.seqT hr2,by lia,hkin,fun z=>hu0 z r hru⟩
  refine ⟨_,rfl,_,_,rfl,rfl,_,rfl,Yl (fun cd=>?_) (fun _=>stay)⟩
  have hd0:(d:Int) > 0:=of_decide_eq_true cd
  refine ⟨_,rfl,_,_,rfl,rfl,(21:),_,_,rfl,rfl,(by show (0:Int) < 16;decide),rfl,_,rfl,Yl (fun _=>?_) (fun _=>stay)⟩
  refine ⟨_,rfl,_,rfl,(35:),fun p1 hp1=>?_⟩
  have k1:=Qf hp1 (.tup [.str kind])
  have m0:0≤x / 256 % 2:=Int.emod_nonneg _ (18:)
  have m1:x / 256 % 2 < 2:=Int.emod_lt_of_pos _ (18:)
  have fin:∀ (m:Nat) (p2:Addr) (H8:Hp),m≤2→Same H6 H8→SqT K H8 p2 (r.2.2.2.map V.str ++ (List.replicate m kind).map V.str)→Same H6 H8∧∃ (ba:Addr) (ss:List Str),[some (V.int c),some (.int k),some (.int (d:Int)),some (.str kind),some (.ref lw),some (.ref lc),some (.bl kp),some (.ref ln),some (.int x),some (.ref lf),some (.ref lz),some (.ref lq),some (.str nz),some (.ref p2),none,none,none,none]=[some (V.int c),some (.int k),some (.int (d:Int)),some (.str kind),some (.ref lw),some (.ref lc),some (.bl kp),some (.ref ln),some (.int x),some (.ref lf),some (.ref lz),some (.ref lq),some (.str nz),some (.ref ba),none,none,none,none]∧SqT K H8 ba (ss.map V.str)∧ss.length≤5∧(∀ s ∈ ss,∃ k ∈ ks,k.2.1=s)∧(d=0→ss=[]):=fun m p2 H8 hm g8 h8=>⟨g8,p2,r.2.2.2 ++ List.replicate m kind,rfl,by rw [List.map_append];exact h8,by rw [List.length_append,List.length_replicate];lia,fun s hs=>by
   rcases List.mem_append.mp hs with z | z
   ·exact hkin s z
   ·rw [(List.mem_replicate.mp z).2];exact hkind,fun z=>by lia⟩
  refine ⟨_,rfl,_,_,rfl,rfl,(21:),_,_,rfl,rfl,(by show (0:Int) < 2;decide),_,_,rfl,rfl,p1,_,_,rfl,rfl,SqT.of Qc,(12:),?_,?_,?_,fun e=>?_,fun e p3 hp3=>?_⟩
  ·show -(2 ^ 63)≤x / 256 % 2 + 1;lia
  ·show x / 256 % 2 + 1 < 2 ^ 63;lia
  ·show 1 * (x / 256 % 2 + 1).toNat≤sizeLine;rw [Qz];lia
  ·refine ⟨r.2.2.1,p1,_,_,rfl,rfl,k1.seqT (g6a.seqT hr2),SqT.of Qc,(by rw [List.length_map,Qz];show r.2.2.2.length + 1≤_;lia),fun p2 H8 g8 hp2=>fin 1 p2 H8 (18:) (g6a.trans (k1.trans g8)) hp2⟩
  ·have e2:x / 256 % 2 + 1=2:=by have:x / 256 % 2 + 1≠1:=e;lia
   have k3:=Qf hp3 (.tup (List.replicate (x / 256 % 2 + 1).toNat [V.str kind]).flatten)
   refine ⟨r.2.2.1,p3,_,_,rfl,rfl,(k1.trans k3).seqT (g6a.seqT hr2),SqT.of Qc,?_,fun p2 H8 g8 hp2=>fin 2 p2 H8 (18:) (g6a.trans (k1.trans (k3.trans g8))) ?_⟩
   ·rw [e2,List.length_map,Qz];show r.2.2.2.length + 2≤_;lia
   ·rw [e2] at hp2;exact hp2
 rintro σ H6b ⟨g6b,ba,ss,rfl,hba,hbl5,hkin,hss0⟩
 have g36b:=g36.trans g6b
 refine ⟨(16:),fun lp hlp=>?_⟩
 have kpl:=Qf hlp (.lst [])
 have esl:(ss.map V.str).length=ss.length:=List.length_map ..
 refine ⟨_,rfl,ba,_,rfl,.inr (kpl.seqT hba),_,rfl,by rw [esl];lia,by rw [esl];lia,?_⟩
 have en:(((ss.map V.str).length:Nat):Int).toNat=ss.length:=by rw [esl];lia
 rw [en]
 refine Q7 (lo:=0) (n:=ss.length) (fun j σ H'=>∃ (c14:Option V) (vs:List V) (ts:List Tm),σ=[some (.int c),some (.int k),some (.int (d:Int)),some (.str kind),some (.ref lw),some (.ref lc),some (.bl kp),some (.ref ln),some (.int x),some (.ref lf),some (.ref lz),some (.ref lq),some (.str nz),some (.ref ba),some (.ref lp),c14,none,none]∧Same H6b H'∧H' lp=some (.lst vs)∧TmAll K H' vs ts∧ts.length=j∧∀ t ∈ ts,TmD Pc n t)
  ⟨none,[],[],rfl,kpl,Qc,.nil,rfl,fun t ht=>(nomatch ht)⟩ ?_ ?_
 ·rintro j σ H7 hj ⟨c14,vs,ts,rfl,g7,hlp7,hvs,htl,hts⟩
  have hvl:=hvs.length
  have hat2:atI (ss.map V.str) (0 + (j:Int))=some (.str ss[j]):=by
   rw [Int.zero_add]
   exact Qy (by rw [List.getElem?_map,List.getElem?_eq_getElem hj];rfl)
  have hd1:d≠0:=fun z=>by
   have:=hss0 z
   rw [this] at hj
   exact absurd hj (Nat.not_lt_zero _)
  obtain ⟨e,rfl⟩ : ∃ e,d=e + 1:=⟨d - 1,by lia⟩
  have g37:=g36b.trans g7
  refine ⟨_,rfl,.inl ⟨rfl,_,SqL.of hlp7⟩,_,rfl,_,rfl,_,_,rfl,rfl,.inl (21:),_,rfl,_,_,rfl,rfl,_,_,rfl,rfl,_,rfl,_,_,rfl,rfl,_,rfl,_,rfl,ba,_,_,_,rfl,rfl,g7.seqT hba,hat2,_,rfl,_,rfl,_,rfl,_,rfl,c,3 * k + (0 + (j:Int))+1,e,ss[j],lw,lc,ln,kp,ks,cs,ns,Pc,by lia,by lia,?_,by lia,?_,hW.same g37,hWF,hkin _ (List.getElem_mem hj),g37.seq hlc,fun c hc=>⟨g37.seqT (hcs c hc).1,(hcs c hc).2⟩,hcl,g37.seq hln,hnl,hnk,fun v H8 t g8 hv ht=>?_⟩
  ·show [V.int c,V.int (3 * k + (0 + (j:Int))+1),V.int (((e + 1:Nat):Int) - 1),V.str _,V.ref lw,V.ref lc,V.bl kp,V.ref ln]=_
   rw [show (((e + 1:Nat):Int) - 1)=(e:Int) by lia]
  ·have p4:(0:Int)≤6 ^ e:=Int.pow_nonneg (18:)
   have:=Int.mul_le_mul_of_nonneg_right (show 3 * k + (0 + (j:Int))+1 + 1≤(k + 1) * 6 by lia) p4
   rw [Int.mul_assoc,show (6:Int) * 6 ^ e=6 ^ (e + 1) by rw [Int.pow_succ,Int.mul_comm]] at this
   lia
  ·have hlp8:=g8 _ _ hlp7
   refine ⟨lp,_,_,rfl,rfl,hlp8,by rw [Qz];lia,?_⟩
   refine ⟨_,vs ++ [v],ts ++ [t],rfl,fun z u e=>?_,Qc,?_,by rw [List.length_append,List.length_singleton,htl],fun t' ht'=>?_⟩
   ·rw [Qj (Qk e hlp)];exact g8 _ _ (g7 _ _ e)
   ·exact TmAll.append (hvs.mono fun _ _ h=>(g8.seqT h).put hlp8) (.cons (hv.mono fun _ _ h=>h.put hlp8) .nil)
   ·rcases List.mem_append.mp ht' with ht' | ht'
    ·exact hts t' ht'
    ·have:t'=t:=by simpa using ht'
     rw [this];exact ht
 ·rintro σ H7 ⟨c14,vs,ts,rfl,g7,hlp7,hvs,htl,hts⟩
  have hvl:=hvs.length
  refine ⟨fun σ' H'=>H7=H'∧∃ kb:Bool,σ'=[some (.int c),some (.int k),some (.int (d:Int)),some (.str kind),some (.ref lw),some (.ref lc),some (.bl kp),some (.ref ln),some (.int x),some (.ref lf),some (.ref lz),some (.ref lq),some (.str nz),some (.ref ba),some (.ref lp),c14,some (.bl kb),none],?_,?_⟩
  ·cases kp with
   | false=>exact ⟨_,rfl,false,rfl,Q3 ⟨rfl,false,rfl⟩⟩
   | true=>exact ⟨_,rfl,true,rfl,Q8 ⟨_,rfl,_,_,rfl,rfl,(21:),_,_,rfl,rfl,(by show (0:Int) < 2;decide),rfl,rfl,_,rfl⟩⟩
  rintro σ H7' ⟨rfl,kb,rfl⟩
  refine ⟨fun σ' H'=>Same H7 H'∧∃ ad:Int,σ'=[some (.int c),some (.int k),some (.int (d:Int)),some (.str kind),some (.ref lw),some (.ref lc),some (.bl kp),some (.ref ln),some (.int x),some (.ref lf),some (.ref lz),some (.ref lq),some (.str nz),some (.ref ba),some (.ref lp),c14,some (.bl kb),some (.int ad)],?_,?_⟩
  ·refine ⟨_,rfl,_,_,rfl,rfl,(21:),_,_,rfl,rfl,(by show (0:Int) < 19;decide),_,_,rfl,rfl,_,rfl,c,rfl,fun gx=>⟨(20:),fun l hl=>?_⟩⟩
   refine ⟨_,rfl,_,_,rfl,rfl,(21:),_,_,rfl,rfl,(by show (0:Int) < 3;decide),?_⟩
   obtain ⟨y,hy,hat⟩:=ZV (xs:=[.int 0,.int (x / 2048 % 19 - 9),.int gx]) (k:=3) rfl (by show 0 < 3;decide) (x / 64)
   refine ⟨l,_,_,y,rfl,rfl,SqL.of Qc,hat,Qf hl _,?_⟩
   simp only [List.mem_cons,List.mem_nil_iff,or_false] at hy
   rcases hy with rfl | rfl | rfl
   ·exact ⟨_,rfl⟩
   ·exact ⟨_,rfl⟩
   ·exact ⟨_,rfl⟩
  rintro σ H8 ⟨g8,ad,rfl⟩
  refine ⟨_,rfl,_,rfl,_,rfl,_,rfl,lp,vs,rfl,.inl ⟨SqL.of (g8 _ _ hlp7),fun pt hpt=>⟨(by show 5≤sizeLine;decide),fun pr hpr=>?_⟩⟩⟩
  have k1:=Qf hpt (.tup vs)
  have k2:=Qf hpr (.tup [.str PUT,.str nz,.bl kb,.int ad,.ref pt])
  have k12:=k1.trans k2
  refine q (.ref pr) _ (.node (.put nz kb ad) 0 ts) (g36b.trans (g7.trans (g8.trans k12))) (.put (SqT.of Qc) (k2.seqT (SqT.of Qc)) (hvs.mono fun _ _=>(g8.trans k12).seqT) (11:)) ⟨⟨fun m b e=>(by cases e),fun nm kp ad e=>by injection e with e1;rw [← e1];exact hnz⟩,?_,hts⟩
  show ts.length≤5
  lia
theorem WP {k:Nat}:FnOk P w K mg base CX0 k f fd Yw (Z0 K 0):=by
 have no:∀ vs H Q E,¬ Z0 K 0 vs H Q E:=fun vs H Q E h=>by
  obtain ⟨c,k,d,kind,lw,lc,ln,keep,ks,cs,ns,Pc,h0,_⟩:=h
  lia
 exact (29:)
theorem Jd (F:Fun K "_law_loose" "_law_loose" Z9 f fd) (G:Gm mg) (RM:Fn P w K mg base 1 "_law_mixed" ["_law_cell", "_law_k"] ZX) (RG:Fn P w K mg base 1 "_law_great" ["_law_cell"] Ut) (hb:Binds K fd Yw []) (hm:mg "_law_loose" = some (.ref f)):∀ n:Nat,FnOk P w K mg base CX0 (n + 1) f fd Yw (Z0 K n)
 | 0=>WP
 | n + 1=>GO F G RM RG ⟨f,fd,Jd F G RM RG hb hm n,hb,F.kp,hm⟩
end
end K61
namespace K61
open PySem L2 TM TT K9 K11
structure Drawn (ks1 ks:List KdT) (k01 k00:KdT) (t0:Tm) (ms:List MoT) (ow:List (Str × Str)):Prop where
 l5:ow.length≤5
 nm:ms.map (fun m=>m.2.1)=ow.map (·.1)
 k1:∀ o ∈ ow,∃ k ∈ ks1,k.2.1=o.1
 k2:∀ o ∈ ow,∃ k ∈ ks,k.2.1=o.2
 ru:∀ m ∈ ms,m.2.2.2.2.length=(rowsK ks1 m.2.1).length∧∀ q ∈ (rowsK ks1 m.2.1).zip m.2.2.2.2,TmD (OwC q.1.2.2.2 ow) 2 q.2
 st:TmD (OwC [k01.2.1] ow) 2 t0
def Y3 (K:PySem.W.Frag):Sp:=fun vs H Q _=>∃ (ls lw lo ln:Addr) (cells:List Int) (ks1 ks:List KdT) (k01 k00:KdT) (ns:List Str),vs=[.ref ls,.ref lw,.ref lo,.ref ln]∧SqL K H ls (cells.map V.int)∧WoodAt K H lw ks1∧WF ks1∧ks1[0]?=some k01∧WoodAt K H lo ks∧WF ks∧ks[0]?=some k00∧SqL K H ln (ns.map V.str)∧ns.length=8∧(∀ x ∈ ns,PyData.strOk x=true) ∧
 ∀ (tu lm:Addr) (sv:V) (H':Hp) (t0:Tm) (ms:List MoT) (ow:List (Str × Str)),Same H H'→TuAt K H' tu lw sv lm ks1 t0 ms→Drawn ks1 ks k01 k00 t0 ms ow→Q (.ref tu) H'
section
variable {P:Program} {w:World} {K:PySem.W.Frag} {mg:Str→Option Value} {base:Heap} {f:Addr} {fd:FuncData}
abbrev OU:List Str:=["_law_script", "_law_wood_here", "_law_out", "_law_names_here", "_law_number", "_law_owners", "_law_i", "_law_some", "_law_modes", "_law_used", "_law_kind", "_law_other", "_law_rules", "_law_row_here", "_law_calls_here", "_law_start"]
abbrev Lj:List Str:=["_law_script", "_law_wood_here", "_law_out", "_law_names_here"]
theorem Q4:FnScope OU Lj (defScope UG):=(1:)
theorem LA (F:Fun K "_law_turning" "_law_turning" UG f fd) (G:Gm mg) (RC:Fn P w K mg base 1 "_law_cell_at" ["_law_script", "_law_k"] (JF K)) (RM:Fn P w K mg base 1 "_law_mixed" ["_law_cell", "_law_k"] ZX) (RL:Fn P w K mg base 3 "_law_loose" Yw (Z0 K 2)) (RK:Fn P w K mg base 1 "_law_calls" ["_law_branches", "_law_owners"] (Xf K)):FnOk P w K mg base CX0 4 f fd Lj (Y3 K):=by
 refine F.ok Q4 (8:) (4:)
 ·obtain ⟨ls,lw,lo,ln,cells,ks1,ks,k01,k00,ns,rfl,_⟩:=h
  rfl
 obtain ⟨ls,lw,lo,ln,cells,ks1,ks,k01,k00,ns,rfl,hls,hW1,hF1,hk01,hWo,hFo,hk00,hln,hnl,hnk,q⟩:=h
 refine ⟨_,(Qe (Ql (i:=4) Q4.nd rfl (7:) (Qs RC hr (Qa (pv 0) (Qa (Qb) Qd))))
  (Qe (Ql (i:=5) Q4.nd rfl (7:) (QM (Qa ((Qv (Qa (Qi Qg (Qi Qx (pv 1) Qb (3:)) Qb (3:)) (Qa (Qi Qg (Qi Qx (pv 2) Qb (3:)) Qb (3:)) Qd)))) Qd)))
  (Qe (QL PassesOwn.never rfl (QU rfl G.rng (Qa (Qm QD (pv 4) Qb) Qd)) (Qq (i:=6) Q4.nd rfl (7:)) (Qe (Ql (i:=7) Q4.nd rfl (7:) (Qs RM hr (Qa (pv 4) (Qa (pv 6) Qd))))
  (Qh (QJ (Zo PySem.F.plainAttrs_list PySem.F.slot_list_append PySem.F.type_list_append QR (pv 5) (Qa ((Qv (Qa (Qi Qg (Qi Qx (pv 1) (Qm QD (pv 7) (Qr Qn rfl G.len PySem.boot_len (Qa (pv 1) Qd))) (3:)) Qb (3:)) (Qa (Qi Qg (Qi Qx (pv 2) (Qm QD (Qm QT (pv 7) Qb) (Qr Qn rfl G.len PySem.boot_len (Qa (pv 2) Qd))) (3:)) Qb (3:)) Qd)))) Qd))))))
  (Qe (Ql (i:=8) Q4.nd rfl (7:) (QM Qd))
  (Qe (Ql (i:=9) Q4.nd rfl (7:) Qb)
  (Qe (QL PassesOwn.never rfl (QO (pv 5)) (Zb rfl (Qw (Qq (i:=10) Q4.nd rfl (7:)) (Qw (Qq (i:=11) Q4.nd rfl (7:)) QX))) (Qe (Ql (i:=12) Q4.nd rfl (7:) (QM Qd))
  (Qe (QL PassesOwn.never rfl (QO (Zg (Ze hr) (QE (QZ rfl) rfl G.dct PyProof.Rows.boot_dict (Qa (pv 1) Qd)) (pv 10) (3:))) (Qq (i:=13) Q4.nd rfl (7:)) (Qe (Ql (i:=14) Q4.nd rfl (7:) (Qs RK hr (Qa (Qi Qg (pv 13) Qb (3:)) (Qa (pv 5) Qd))))
  (Qe (QJ (Zo PySem.F.plainAttrs_list PySem.F.slot_list_append PySem.F.type_list_append QR (pv 12) (Qa (Qs RL hr (Qa (Qs RC hr (Qa (pv 0) (Qa (pv 9) Qd))) (Qa (Qb) (Qa (Qb) (Qa (pv 11) (Qa (pv 2) (Qa (pv 14) (Qa (Zq) (Qa (pv 3) Qd))))))))) Qd)))
  (Qh (Ql (i:=9) Q4.nd rfl (7:) (Qm QK (pv 9) Qb))))))
  (Qh (QJ (Zo PySem.F.plainAttrs_list PySem.F.slot_list_append PySem.F.type_list_append QR (pv 8) (Qa ((Qv (Qa (pv 10) (Qa (pv 12) Qd)))) Qd)))))))
  (Qe (Ql (i:=14) Q4.nd rfl (7:) (Qs RK hr (Qa ((Qv (Qa (Qi Qg (Qi Qx (pv 1) Qb (3:)) Qb (3:)) Qd))) (Qa (pv 5) Qd))))
  (Qe (Ql (i:=15) Q4.nd rfl (7:) (Qs RL hr (Qa (Qs RC hr (Qa (pv 0) (Qa (Qb) Qd))) (Qa (Qb) (Qa (Qb) (Qa (Qi Qg (Qi Qx (pv 2) Qb (3:)) Qb (3:)) (Qa (pv 2) (Qa (pv 14) (Qa (Zq) (Qa (pv 3) Qd))))))))))
  (Qh (Qo (Qv (Qa (pv 1) (Qa (pv 15) (Qa (pv 8) Qd)))))))))))))),?_⟩
 have hk01m:=List.mem_of_getElem? hk01
 have hk00m:=List.mem_of_getElem? hk00
 have at1:atI (ks1.map fun k=>V.ref k.1) 0=some (.ref k01.1):=Qy (j:=0) (by rw [List.getElem?_map,hk01];rfl)
 have at0:atI (52:) 0=some (.ref k00.1):=Qy (j:=0) (by rw [List.getElem?_map,hk00];rfl)
 refine ⟨_,rfl,ls,cells,3,rfl,by decide,hls,fun nb=>?_⟩
 refine ⟨_,rfl,lw,_,0,_,rfl,rfl,hW1.1,at1,k01.1,_,0,_,rfl,rfl,(hW1.2 k01 hk01m).1,rfl,_,rfl,lo,_,0,_,rfl,rfl,hWo.1,at0,k00.1,_,0,_,rfl,rfl,(hWo.2 k00 hk00m).1,rfl,(23:),fun p0 hp0=>⟨(35:),fun po hpo=>?_⟩⟩
 have g1:=Qf hp0 (.tup [.str k01.2.1,.str k00.2.1])
 have g2:=Qf hpo (.lst [.ref p0])
 have hpoH:H po=none:=by
  cases e:H po with
  | none=>rfl
  | some u=>rw [g1 _ _ e] at hpo;cases hpo
 have m0:0≤nb % 5:=Int.emod_nonneg _ (18:)
 have m5:nb % 5 < 5:=Int.emod_lt_of_pos _ (18:)
 refine ⟨_,rfl,_,_,rfl,rfl,(by show (0:Int) < 5;decide),_,rfl,(by show -(2 ^ 62)≤nb % 5;lia),(by show nb % 5 < 2 ^ 62;lia),?_⟩
 refine Q7 (lo:=0) (fun i σ H'=>∃ (c6 c7:Option V) (ow:List (Addr × Str × Str)),σ=[some (.ref ls),some (.ref lw),some (.ref lo),some (.ref ln),some (.int nb),some (.ref po),c6,c7,none,none,none,none,none,none,none,none]∧Same H H'∧H' po=some (.lst (ow.map fun q=>V.ref q.1))∧(∀ q ∈ ow,SqT K H' q.1 [.str q.2.1,.str q.2.2]∧(∃ k ∈ ks1,k.2.1=q.2.1)∧∃ k ∈ ks,k.2.1=q.2.2)∧ow.length=i + 1)
  ⟨_,_,[(p0,k01.2.1,k00.2.1)],rfl,g1.trans g2,Qc,fun q hq=>?_,rfl⟩ ?_ ?_
 ·obtain rfl:q=(p0,k01.2.1,k00.2.1):=by simpa using hq
  exact ⟨g2.seqT (SqT.of Qc),⟨k01,hk01m,rfl⟩,k00,hk00m,rfl⟩
 ·rintro i σ H' hi ⟨c6,c7,ow,rfl,g,jpo,jow,jl⟩
  have hi5:i < 5:=by
   have:(i:Int) < nb % 5:=by lia
   lia
  refine ⟨_,rfl,_,rfl,nb,0 + (i:Int),rfl,by lia,by lia,fun x x0 x1=>?_⟩
  have hl1:(ks1.map fun k=>V.ref k.1).length=ks1.length:=List.length_map ..
  have hl2:(52:).length=ks.length:=List.length_map ..
  have n1:=hF1.ne
  have n2:=hFo.ne
  obtain ⟨y1,hy1,hat1⟩:=ZV (xs:=ks1.map fun k=>V.ref k.1) (k:=((ks1.map fun k=>V.ref k.1).length:Int)) rfl (by rw [hl1];exact n1) x
  obtain ⟨ka,hka,rfl⟩:=List.mem_map.mp hy1
  obtain ⟨y2,hy2,hat2⟩:=ZV (xs:=ks.map fun k=>V.ref k.1) (k:=((52:).length:Int)) rfl (by rw [hl2];exact n2) (x / 64)
  obtain ⟨kb,hkb,rfl⟩:=List.mem_map.mp hy2
  have hW1':=hW1.same g
  have hWo':=hWo.same g
  refine ⟨_,rfl,.inl ⟨rfl,_,SqL.of jpo⟩,_,rfl,_,rfl,_,rfl,lw,_,rfl,.inl hW1'.1,_,_,rfl,rfl,(by rw [hl1];lia),lw,_,_,_,rfl,rfl,hW1'.1,hat1,ka.1,_,0,_,rfl,rfl,(hW1'.2 ka hka).1,rfl,_,rfl,_,rfl,_,_,rfl,rfl,(21:),_,rfl,lo,_,rfl,.inl hWo'.1,_,_,rfl,rfl,(by rw [hl2];lia),lo,_,_,_,rfl,rfl,hWo'.1,hat2,kb.1,_,0,_,rfl,rfl,(hWo'.2 kb hkb).1,rfl,(23:),fun p hp=>?_⟩
  have gp:=Qf hp (.tup [.str ka.2.1,.str kb.2.1])
  refine ⟨po,_,_,rfl,rfl,gp _ _ jpo,(by rw [List.length_map,Qz];lia),?_⟩
  have kp:=Kp.put (K:=K) (o:=.lst (ow.map (fun q=>V.ref q.1) ++ [V.ref p])) (gp _ _ jpo)
  refine ⟨_,_,ow ++ [(p,ka.2.1,kb.2.1)],rfl,fun b u e=>by rw [Qj (Qk e hpoH)];exact gp _ _ (g _ _ e),by rw [Qc,List.map_append];rfl,fun z hz=>?_,by rw [List.length_append,List.length_singleton,jl]⟩
  rcases List.mem_append.mp hz with z' | z'
  ·exact ⟨kp.2 _ _ (gp.seqT (jow z z').1),(jow z z').2⟩
  ·obtain rfl:z=(p,ka.2.1,kb.2.1):=by simpa using z'
   exact ⟨kp.2 _ _ (SqT.of Qc),⟨ka,hka,rfl⟩,kb,hkb,rfl⟩
 rintro σ H3 ⟨c6,c7,ow,rfl,g3,jpo,jow,jl⟩
 have hol:ow.length≤5:=by lia
 refine ⟨(16:),fun lm hlm=>?_⟩
 have g4':=Qf hlm (.lst [])
 have hlmH:H lm=none:=by
  cases e:H lm with
  | none=>rfl
  | some u=>rw [g3 _ _ e] at hlm;cases hlm
 have g4:=g3.trans g4'
 have nlp:po≠lm:=fun z=>by rw [z,hlm] at jpo;cases jpo
 refine ⟨_,rfl,po,rfl,⟨_,SqL.of (g4' _ _ jpo)⟩,?_⟩
 refine Yf (K:=K) (xs:=ow.map fun q=>V.ref q.1) (fun i σ H'=>∃ (c10 c11 c12 c13 c14:Option V) (u:Int) (ms:List MoT),σ=[some (.ref ls),some (.ref lw),some (.ref lo),some (.ref ln),some (.int nb),some (.ref po),c6,c7,some (.ref lm),some (.int u),c10,c11,c12,c13,c14,none]∧Same H H'∧H' po=some (.lst (ow.map fun q=>V.ref q.1))∧(∀ q ∈ ow,SqT K H' q.1 [.str q.2.1,.str q.2.2])∧H' lm=some (.lst (ms.map fun m=>V.ref m.1))∧(∀ m ∈ ms,SqT K H' m.1 [.str m.2.1,.ref m.2.2.1]∧H' m.2.2.1=some (.lst m.2.2.2.1)∧m.2.2.1≠lm∧TmAll K H' m.2.2.2.1 m.2.2.2.2)∧ms.map (fun m=>m.2.1)=(ow.take i).map (fun q=>q.2.1)∧(∀ m ∈ ms,m.2.2.2.2.length=(rowsK ks1 m.2.1).length∧∀ q ∈ (rowsK ks1 m.2.1).zip m.2.2.2.2,TmD (OwC q.1.2.2.2 (ow.map (·.2))) 2 q.2)∧0≤u)
  ⟨_,_,_,_,_,5,[],rfl,g4,g4' _ _ jpo,fun q hq=>g4'.seqT (jow q hq).1,Qc,fun m hm=>(nomatch hm),by simp,fun m hm=>(nomatch hm),by decide⟩ ?_ ?_ ?_
 ·rintro i σ H' _ ⟨_,_,_,_,_,_,_,_,_,h,_⟩
  exact SqL.of h
 ·rintro i v σ H5 hv ⟨c10,c11,c12,c13,c14,u,ms,rfl,g5,po5,ow5,lm5,ms5,nm5,ru5,hu5⟩
  have hi:i < ow.length:=by
   have:=(List.getElem?_eq_some_iff.mp hv).1
   rwa [List.length_map] at this
  obtain rfl:v=.ref ow[i].1:=by
   rw [List.getElem?_map,List.getElem?_eq_getElem hi] at hv
   exact (Option.some.inj hv).symm
  have hmo:=List.getElem_mem hi
  obtain ⟨kd,hkf,erow,hkm⟩:=QV (jow _ hmo).2.1
  have hko:=(jow _ hmo).2.2
  have htk:(ow.take (i + 1)).map (fun q=>q.2.1)=(ow.take i).map (fun q=>q.2.1) ++ [ow[i].2.1]:=by rw [List.take_add_one,List.getElem?_eq_getElem hi,List.map_append];rfl
  have hq5:=ow5 _ hmo
  generalize ow[i]=o at hmo hkf hko htk hq5 erow
  refine ⟨_,_,rfl,hq5,rfl,_,_,rfl,_,_,rfl,rfl,?_⟩
  refine ⟨(16:),fun lr hlr=>?_⟩
  have g6':=Qf hlr (.lst [])
  have hlrH:H lr=none:=by
   cases e:H lr with
   | none=>rfl
   | some u=>rw [g5 _ _ e] at hlr;cases hlr
  have g6:=g5.trans g6'
  have hW6:=hW1.same g6
  refine ⟨_,rfl,lw,wts ks1,rfl,wdA hW6,wdB hW6,wdC hF1.ok,wdD hF1.ok,fun dd hdd=>⟨_,rfl,dd,.ref kd.2.2.1,rfl,UB Qc hkf,?_⟩⟩
  have g7':=Qf hdd (.dK (wkv ks1))
  have g7:=g6.trans g7'
  have g57:=g6'.trans g7'
  have hR7:=((hW1.same g7).2 kd hkm).2
  have h3w:=(hF1.kf kd hkm).w3
  refine ⟨kd.2.2.1,rfl,⟨_,hR7.1⟩,?_⟩
  refine Yf (K:=K) (xs:=kd.2.2.2.map fun t=>V.ref t.1) (fun j σ H'=>∃ (c13 c14:Option V) (u:Int) (vs:List V) (ts:List Tm),σ=[some (.ref ls),some (.ref lw),some (.ref lo),some (.ref ln),some (.int nb),some (.ref po),c6,c7,some (.ref lm),some (.int u),some (.str o.2.1),some (.str o.2.2),some (.ref lr),c13,c14,none]∧Same H5 H'∧H' lr=some (.lst vs)∧TmAll K H' vs ts∧ts.length=j∧(∀ q ∈ kd.2.2.2.zip ts,TmD (OwC q.1.2.2.2 (ow.map (·.2))) 2 q.2)∧0≤u)
   ⟨_,_,u,[],[],rfl,g57,g7' _ _ Qc,.nil,rfl,fun q hq=>by simp at hq,hu5⟩ ?_ ?_ ?_
  ·rintro j σ H' _ ⟨_,_,_,_,_,_,g,_⟩
   exact ((hW1.same (g5.trans g)).2 kd hkm).2.1
  ·rintro j v σ H8 hv ⟨c13,c14,u,vs,ts,rfl,g8,lr8,hvs,htl,hts,hu8⟩
   have hj:j < kd.2.2.2.length:=by
    have:=(List.getElem?_eq_some_iff.mp hv).1
    rwa [List.length_map] at this
   obtain rfl:v=.ref kd.2.2.2[j].1:=by
    rw [List.getElem?_map,List.getElem?_eq_getElem hj] at hv
    exact (Option.some.inj hv).symm
   have hrk:=List.getElem_mem hj
   have g58:=g5.trans g8
   obtain ⟨r1,r2⟩:=((hW1.same g58).2 kd hkm).2.2 _ hrk
   have h3:=h3w _ hrk
   refine ⟨_,rfl,_,_,1,_,rfl,rfl,r1,rfl,_,rfl,kd.2.2.2[j].2.2.1,po,kd.2.2.2[j].2.2.2,ow,rfl,r2,⟨SqL.of (g8 _ _ po5),fun q hq=>g8.seqT (ow5 q hq)⟩,by lia,by lia,fun lc H9 cs g9 hlc9 hcl hcs hcn=>?_⟩
   have g59:=g58.trans g9
   have g89:=g8.trans g9
   refine ⟨_,rfl,.inl ⟨rfl,_,SqL.of (g9 _ _ lr8)⟩,_,rfl,_,rfl,ls,cells,u,rfl,hu8,g59.seq hls,fun cc=>?_⟩
   refine ⟨_,rfl,_,rfl,_,rfl,_,rfl,cc,0,1,o.2.2,lo,lc,ln,true,ks,cs,ns,OwC kd.2.2.2[j].2.2.2 (ow.map (·.2)),rfl,by decide,rfl,by decide,by decide,hWo.same g59,hFo,hko,SqL.of hcl,hcs,hcn,g59.seq hln,hnl,hnk,fun v2 Ha t ga hv2 ht2=>?_⟩
   have lra:=ga _ _ (g9 _ _ lr8)
   have hvl:=hvs.length
   refine ⟨lr,_,_,rfl,rfl,lra,(by rw [Qz];have:=hF1.ok.rows kd hkm;have:=this.len;lia),?_⟩
   refine ⟨_,rfl,_,_,rfl,rfl,?_⟩
   refine ⟨_,_,u + 1,vs ++ [v2],ts ++ [t],rfl,fun b w e=>?_,Qc,TmAll.append (hvs.mono fun _ _ h=>(ga.seqT (g9.seqT h)).put lra) (.cons (hv2.mono fun _ _ h=>h.put lra) .nil),by rw [List.length_append,List.length_singleton,htl],fun q hq=>?_,by lia⟩
   ·rw [Qj (Qk e hlr)];exact ga _ _ (g89 _ _ e)
   ·obtain ⟨m,hm,e⟩:=List.getElem_of_mem hq
    have hm2:=hm
    rw [List.length_zip,List.length_append,List.length_singleton] at hm2
    rw [List.getElem_zip] at e
    by_cases hmj:m < ts.length
    ·rw [List.getElem_append_left hmj] at e
     refine hts q ?_
     rw [← e]
     refine List.mem_iff_getElem.mpr ⟨m,by rw [List.length_zip];lia,?_⟩
     rw [List.getElem_zip]
    ·obtain rfl:m=j:=by lia
     rw [List.getElem_append_right (11:)] at e
     rw [← e]
     simpa using ht2
  ·rintro σ H8 ⟨c13,c14,u,vs,ts,rfl,g8,lr8,hvs,htl,hts,hu8⟩
   rw [List.length_map] at htl
   have nll:lr≠lm:=fun z=>by rw [z,lm5] at hlr;cases hlr
   refine ⟨_,rfl,.inl ⟨rfl,_,SqL.of (g8 _ _ lm5)⟩,_,rfl,_,rfl,(23:),fun p hp=>?_⟩
   have gp:=Qf hp (.tup [.str o.2.1,.ref lr])
   have lm8:=gp _ _ (g8 _ _ lm5)
   have hml:ms.length=i:=by
    have:=congrArg List.length nm5
    rw [List.length_map,List.length_map,List.length_take] at this
    lia
   refine ⟨lm,_,_,rfl,rfl,lm8,(by rw [List.length_map,Qz];lia),?_⟩
   have kp:=Kp.put (K:=K) (o:=.lst (ms.map (fun m=>V.ref m.1) ++ [V.ref p])) lm8
   have ok:∀ a w,a≠lm→H8 a=some w→upd (upd H8 p (.tup [.str o.2.1,.ref lr])) lm (.lst (ms.map (fun m=>V.ref m.1) ++ [V.ref p])) a=some w:=fun a w na h=>by rw [Qj na];exact gp _ _ h
   refine ⟨_,_,_,_,_,u,ms ++ [(p,o.2.1,lr,vs,ts)],rfl,fun b w e=>ok b w (Qk e hlmH) (g8 _ _ (g5 _ _ e)),ok po _ nlp (g8 _ _ po5),fun q hq=>kp.2 _ _ (gp.seqT (g8.seqT (ow5 q hq))),by rw [Qc,List.map_append];rfl,fun m hm=>?_,by rw [List.map_append,nm5,htk];rfl,fun m hm=>?_,hu8⟩
   ·rcases List.mem_append.mp hm with z | z
    ·obtain ⟨z1,z2,z3,z4⟩:=ms5 m z
     exact ⟨kp.2 _ _ (gp.seqT (g8.seqT z1)),ok _ _ z3 (g8 _ _ z2),z3,z4.mono fun _ _ h=>kp.2 _ _ (gp.seqT (g8.seqT h))⟩
    ·obtain rfl:m=(p,o.2.1,lr,vs,ts):=by simpa using z
     exact ⟨kp.2 _ _ (SqT.of Qc),ok _ _ nll lr8,nll,hvs.mono fun _ _ h=>kp.2 _ _ (gp.seqT h)⟩
   ·rcases List.mem_append.mp hm with z | z
    ·exact ru5 m z
    ·obtain rfl:m=(p,o.2.1,lr,vs,ts):=by simpa using z
     show ts.length=(rowsK ks1 o.2.1).length∧∀ q ∈ (rowsK ks1 o.2.1).zip ts,_
     rw [erow]
     exact ⟨htl,hts⟩
 ·rintro σ H5 ⟨c10,c11,c12,c13,c14,u,ms,rfl,g5,po5,ow5,lm5,ms5,nm5,ru5,hu5⟩
  rw [List.length_map,List.take_length] at nm5
  have hW5:=hW1.same g5
  refine ⟨_,rfl,lw,_,0,_,rfl,rfl,hW5.1,at1,k01.1,_,0,_,rfl,rfl,(hW5.2 k01 hk01m).1,rfl,(35:),fun p1 hp1=>?_⟩
  have k1:=Qf hp1 (.tup [.str k01.2.1])
  refine ⟨_,rfl,p1,po,[k01.2.1],ow,rfl,SqT.of Qc,⟨SqL.of (k1 _ _ po5),fun q hq=>k1.seqT (ow5 q hq)⟩,(by show 1≤10;decide),by lia,fun lc H9 cs g9 hlc9 hcl hcs hcn=>?_⟩
  have g59:=g5.trans (k1.trans g9)
  have hWo9:=hWo.same g59
  refine ⟨_,rfl,ls,cells,4,rfl,by decide,g59.seq hls,fun cc=>?_⟩
  refine ⟨_,rfl,lo,_,0,_,rfl,rfl,hWo9.1,at0,k00.1,_,0,_,rfl,rfl,(hWo9.2 k00 hk00m).1,rfl,_,rfl,_,rfl,_,rfl,cc,0,1,k00.2.1,lo,lc,ln,false,ks,cs,ns,OwC [k01.2.1] (ow.map (·.2)),rfl,by decide,rfl,by decide,by decide,hWo9,hFo,⟨k00,hk00m,rfl⟩,SqL.of hcl,hcs,hcn,g59.seq hln,hnl,hnk,fun sv Ha t0 ga hsv ht0=>?_⟩
  refine ⟨_,rfl,_,rfl,_,rfl,(20:),fun tu htu=>?_⟩
  have kt:=Qf htu (.tup [.ref lw,sv,.ref lm])
  have gall:=k1.trans (g9.trans (ga.trans kt))
  refine q tu lm sv _ t0 ms (ow.map (·.2)) (g5.trans gall) ⟨SqT.of Qc,hW1.same (g5.trans gall),hsv.mono fun _ _=>kt.seqT,SqL.of (gall _ _ lm5),fun m hm=>?_⟩ ⟨by rw [List.length_map];exact hol,by rw [nm5,List.map_map];rfl,fun o ho=>?_,fun o ho=>?_,ru5,ht0⟩
  ·obtain ⟨z1,z2,z3,z4⟩:=ms5 m hm
   exact ⟨gall.seqT z1,SqL.of (gall _ _ z2),z4.mono fun _ _=>gall.seqT⟩
  ·obtain ⟨z,hz,rfl⟩:=List.mem_map.mp ho
   exact (jow z hz).2.1
  ·obtain ⟨z,hz,rfl⟩:=List.mem_map.mp ho
   exact (jow z hz).2.2
end
end K61
namespace K61
open PySem L2 TM TT K9 K11
def nmT:Tree Str→Str
 | .node n _ _=>n
def NF (f:RK) (k:Str) (nm:Str) (l:Nat):Prop:=∃ ss,f k nm=some ss∧ss.length=l
inductive Wr (f:RK) (ru:Int→Str→Option Tm):List Int→Tm→Tree Str→Str→Prop
 | call {p:List Int} {t t1:Tm} {r x:Tree Str} {k:Str} {m:Int} (i:Nat):lab t=.call m (i:Int)→r.bs[i]?=some x→ru m (nmT x)=some t1→Wr f ru p t1 x k→Wr f ru p t r k
 | here {t:Tm} {r:Tree Str} {k nm:Str} {kp:Bool} {ad:Int}:lab t=.put nm kp ad→¬ NF f k nm t.bs.length→Wr f ru [] t r k
 | down {p:List Int} {t ti:Tm} {r:Tree Str} {k ki nm:Str} {kp:Bool} {ad:Int} {ss:List Str} (i:Nat):lab t=.put nm kp ad→f k nm=some ss→ss.length=t.bs.length→t.bs[i]?=some ti→ss[i]?=some ki→Wr f ru p ti r ki→Wr f ru ((i:Int) :: p) t r k
inductive Cm (ru:Int→Str→Option Tm):Nat→Tm→Tree Str→Tm→Tree Str→Prop
 | put {t:Tm} {r:Tree Str} {nm:Str} {kp:Bool} {ad:Int}:lab t=.put nm kp ad→Cm ru 0 t r t r
 | call {n:Nat} {t t1 t':Tm} {r x r':Tree Str} {m:Int} (i:Nat):lab t=.call m (i:Int)→r.bs[i]?=some x→ru m (nmT x)=some t1→Cm ru n t1 x t' r'→Cm ru (n + 1) t r t' r'
section
variable {f f1:RK} {ru:Int→Str→Option Tm} {n:Nat} {rl:Dd→List (Rw × Tm)} {t0:Tm} {k1 k0:Str} {s:Stt} {j:Nat} {ks1:List KdT} {kp:Int→Str}
theorem Wr.cm {p:List Int} {t:Tm} {r:Tree Str} {k:Str} (h:Wr f ru p t r k):∃ n t' r',Cm ru n t r t' r'∧Wr f ru p t' r' k∧∃ nm kp ad,lab t'=.put nm kp ad:=by
 induction h with
 | call i h1 h2 h3 _ ih =>
  obtain ⟨n,t',r',a,b⟩:=ih
  exact ⟨n + 1,t',r',.call i h1 h2 h3 a,b⟩
 | here h1 h2=>exact ⟨0,_,_,.put h1,.here h1 h2,_,_,_,h1⟩
 | down i h1 h2 h3 h4 h5 h6 _=>exact ⟨0,_,_,.put h1,.down i h1 h2 h3 h4 h5 h6,_,_,_,h1⟩
theorem WM:∀ {n:Nat} {t:Tm} {k:Str} {p:List Int},∀ i ∈ its f n t k p,∃ pl,i.1=p ++ pl∧∀ r,(i.2=none→Wr f ru pl t r k)∧∀ (m:Int) (b:Nat) (k':Str),i.2=some (m,(b:Int),k')→∀ (q:List Int) (x:Tree Str) (t1:Tm),r.bs[b]?=some x→ru m (nmT x)=some t1→Wr f ru q t1 x k'→Wr f ru (pl ++ q) t r k
 | 0,_,_,_,i,hi=>by rw [its] at hi;cases hi
 | n + 1,t,k,p,i,hi=>by
  rw [its] at hi
  cases el:lab t with
  | call m b =>
   rw [el] at hi
   obtain rfl:i=(p,some (m,b,k)):=by simpa using hi
   refine ⟨[],(List.append_nil _).symm,fun r=>⟨fun z=>(nomatch z),fun m' b' k' e q x t1 h1 h2 h3=>?_⟩⟩
   obtain ⟨rfl,rfl,rfl⟩ : m=m'∧b=b'∧k=k':=by simpa using e
   exact .call b' el h1 h2 h3
  | put nm kp ad =>
   rw [el] at hi
   dsimp only at hi
   have bad:i=(p,none)→¬ NF f k nm t.bs.length→∃ pl,i.1=p ++ pl∧∀ r,(i.2=none→Wr f ru pl t r k)∧∀ (m:Int) (b:Nat) (k':Str),i.2=some (m,(b:Int),k')→∀ (q:List Int) (x:Tree Str) (t1:Tm),r.bs[b]?=some x→ru m (nmT x)=some t1→Wr f ru q t1 x k'→Wr f ru (pl ++ q) t r k:=fun e hf=>by
    subst e
    exact ⟨[],(List.append_nil _).symm,fun r=>⟨fun _=>.here el hf,fun m b k' z=>(nomatch z)⟩⟩
   cases er:f k nm with
   | none =>
    rw [er] at hi
    exact bad (by simpa using hi) fun ⟨ss,e,_⟩=>by rw [er] at e;cases e
   | some ss =>
    rw [er] at hi
    dsimp only at hi
    by_cases e:ss.length=t.bs.length
    ·rw [if_pos e] at hi
     obtain ⟨⟨⟨ti,ki⟩,c⟩,hq,hi⟩:=List.mem_flatMap.mp hi
     have hz:=List.mem_zipIdx_iff_getElem?.mp hq
     rw [List.getElem?_zip_eq_some] at hz
     obtain ⟨pl,e1,h1⟩:=WM i hi
     refine ⟨(c:Int) :: pl,by rw [e1,List.append_assoc];rfl,fun r=>⟨fun z=>?_,fun m b k' e2 q x t1 g1 g2 g3=>?_⟩⟩
     ·exact .down c el er e hz.1 hz.2 ((h1 r).1 z)
     ·exact .down c el er e hz.1 hz.2 ((h1 r).2 m b k' e2 q x t1 g1 g2 g3)
    ·rw [if_neg e] at hi
     exact bad (by simpa using hi) fun ⟨ss',e1,e2⟩=>by rw [er] at e1;obtain rfl:=Option.some.inj e1;exact e e2
def OfK (f:RK):Nat→Str→Tree Str→Prop
 | 0,_,_=>False
 | n + 1,k,t=>∃ ss,f k (nmT t)=some ss∧ss.length=t.bs.length∧∀ (j:Nat) (b:Tree Str) (s:Str),t.bs[j]?=some b→ss[j]?=some s→OfK f n s b
theorem OfK.mono:∀ {n m:Nat} {k:Str} {t:Tree Str},OfK f n k t→n≤m→OfK f m k t
 | 0,_,_,_,h,_=>h.elim
 | n + 1,0,_,_,_,h=>absurd h (Nat.not_succ_le_zero _)
 | n + 1,m + 1,_,_,⟨ss,h1,h2,h3⟩,h=>⟨ss,h1,h2,fun j b s g1 g2=>(h3 j b s g1 g2).mono (Nat.le_of_succ_le_succ h)⟩
theorem XI {ks:List KdT} (hO:WoodOk ks) {s:Str} (h:HasLeaf ks s) (n:Nat):OfK (46:) (n + 1) s (QS ks s):=by
 obtain ⟨r,h1,h2⟩:=h.find
 have hb:=List.find?_some h1
 have hb:r.2.2.2=[]:=List.isEmpty_iff.mp hb
 have hm:=List.mem_of_find?_eq_some h1
 refine ⟨[],?_,rfl,fun j b s' g=>?_⟩
 ·show rowK ks s (WU ks s)=some []
  rw [h2]
  unfold rowK
  have nd:=(YI hO s).nd
  cases e:(rowsK ks s).find? fun x=>decide (x.2.1=r.2.1) with
  | none =>
   have:=List.find?_eq_none.mp e r hm
   simp at this
  | some x =>
   have e1:x.2.1=r.2.1:=by simpa using List.find?_some e
   obtain ⟨i,hi,rfl⟩:=List.getElem_of_mem (List.mem_of_find?_eq_some e)
   obtain ⟨i',hi',e3⟩:=List.getElem_of_mem hm
   have:i=i':=by
    refine (List.getElem?_inj (by rw [List.length_map];exact hi) nd).mp ?_
    rw [List.getElem?_map,List.getElem?_map,List.getElem?_eq_getElem hi,List.getElem?_eq_getElem hi',Option.map_some,Option.map_some,e1,e3]
   subst this
   rw [Option.map_some,e3,hb]
 ·cases g
def OfR (f:RK) (h:Nat) (row:Rw) (X:Tree Str):Prop:=∃ bs,X=.node row.1 0 bs∧bs.length=row.2.length∧∀ (j:Nat) (b:Tree Str) (s:Str),bs[j]?=some b→row.2[j]?=some s→OfK f h s b
structure Wy (f f1:RK) (n:Nat) (rl:Dd→List (Rw × Tm)) (ru:Int→Str→Option Tm) (t0:Tm) (k1 k0:Str) (kp:Int→Str) (ks1:List KdT):Prop where
 ru:∀ d,0≤d.1→∀ q ∈ rl d,ru d.1 q.1.1=some q.2
 row:∀ d,∀ q ∈ rl d,f1 (kp d.1) q.1.1=some q.1.2
 leaf:∀ d,∀ q ∈ rl d,∀ s ∈ q.1.2,∀ n,OfK f1 (n + 1) s (QS ks1 s)
 leaf0:∀ n,OfK f1 (n + 1) k1 (QS ks1 k1)
 call:∀ d,∀ q ∈ rl d,∀ i ∈ its f n q.2 d.2 [],∀ m b k,i.2=some (m,b,k)→∃ c:Nat,b=(c:Int)∧q.1.2[c]?=some (kp m)
 call0:∀ i ∈ its f n t0 k0 [],∀ m b k,i.2=some (m,b,k)→∃ c:Nat,b=(c:Int)∧[k1][c]?=some (kp m)
def SpT (rl:Dd→List (Rw × Tm)) (t0:Tm) (k1 k0:Str) (s:Stt) (sp:Spot) (t:Tm) (k:Str):Prop:=(sp=⟨0,none,(S [],[k1])⟩∧t=t0∧k=k0)∨∃ d ∈ s.ds,sp.n=nOf s d + 1∧sp.dm=some d∧(sp.row,t) ∈ rl d∧k=d.2
theorem MV {x:SI} (h:x ∈ L0s f n t0 k1 k0∨∃ d ∈ s.ds,x ∈ LB f n rl (nOf s d + 1) d):∃ t k,SpT rl t0 k1 k0 s x.1 t k∧x.2 ∈ its f n t k []:=by
 rcases h with h | ⟨d,hd,h⟩
 ·obtain ⟨i,hi,rfl⟩:=List.mem_map.mp h
  exact ⟨t0,k0,.inl ⟨rfl,rfl,rfl⟩,hi⟩
 ·obtain ⟨q,hq,h⟩:=List.mem_flatMap.mp h
  obtain ⟨i,hi,rfl⟩:=List.mem_map.mp h
  exact ⟨q.2,d.2,.inr ⟨d,hd,rfl,rfl,hq,rfl⟩,hi⟩
theorem Wy.leaves (W:Wy f f1 n rl ru t0 k1 k0 kp ks1) {sp:Spot} {t:Tm} {k:Str} (h:SpT rl t0 k1 k0 s sp t k):∀ z ∈ sp.row.2,∀ n,OfK f1 (n + 1) z (QS ks1 z):=by
 rcases h with ⟨rfl,_,_⟩ | ⟨d,_,_,_,hq,_⟩
 ·intro z hz n
  obtain rfl:z=k1:=by simpa using hz
  exact W.leaf0 n
 ·exact W.leaf d _ hq
theorem Wy.calls (W:Wy f f1 n rl ru t0 k1 k0 kp ks1) {sp:Spot} {t:Tm} {k:Str} (h:SpT rl t0 k1 k0 s sp t k) {i:It} (hi:i ∈ its f n t k []) {m b:Int} {k':Str} (e:i.2=some (m,b,k')):∃ c:Nat,b=(c:Int)∧sp.row.2[c]?=some (kp m):=by
 rcases h with ⟨rfl,rfl,rfl⟩ | ⟨d,_,_,_,hq,rfl⟩
 ·exact W.call0 i hi m b k' e
 ·exact W.call d _ hq i hi m b k' e
theorem MO (W:Wy f f1 n rl ru t0 k1 k0 kp ks1) (B:Bf f n rl (L0s f n t0 k1 k0) j s) (hp:∀ d ∈ s.ds,0≤d.1) (r:Rw):∀ (m:Nat) (sp:Spot) (t:Tm) (k:Str) (p:List Int) (w:List (Rw × Int)) (h:Nat),SpT rl t0 k1 k0 s sp t k→sp.n < m→Wr f ru p t (wayT ks1 w r) k→OfR f1 (h + 1) sp.row (wayT ks1 w r) →
 Wr f ru (Zi s m sp.dm p w).2 t0 (wayT ks1 (Zi s m sp.dm p w).1 r) k0∧OfR f1 (h + 1 + sp.n) (S [],[k1]) (wayT ks1 (Zi s m sp.dm p w).1 r)
 | 0,_,_,_,_,_,_,_,h,_,_=>absurd h (Nat.not_lt_zero _)
 | m + 1,sp,t,k,p,w,h,hs,hm,hw,hr=>by
  rcases hs with ⟨rfl,rfl,rfl⟩ | ⟨d,hd,hn,hdm,hq,rfl⟩
  ·exact ⟨hw,hr⟩
  ·rw [hdm]
   obtain ⟨q,hqs,eq⟩:=Y2 hd
   have hf:s.ss.find? (fun x=>decide (x.1=d))=some q:=by
    cases e:s.ss.find? fun x=>decide (x.1=d) with
    | none =>
     have:=List.find?_eq_none.mp e q hqs
     simp [eq] at this
    | some x =>
     have e1:x.1=d:=by simpa using List.find?_some e
     obtain ⟨i,hi,rfl⟩:=List.getElem_of_mem (List.mem_of_find?_eq_some e)
     obtain ⟨i',hi',e3⟩:=List.getElem_of_mem hqs
     have:i=i':=by
      refine (List.getElem?_inj (by unfold Stt.ds;rw [List.length_map];exact hi) B.nd).mp ?_
      unfold Stt.ds
      rw [List.getElem?_map,List.getElem?_map,List.getElem?_eq_getElem hi,List.getElem?_eq_getElem hi',Option.map_some,Option.map_some,e1,e3,eq]
     subst this
     rw [e3]
   have hnq:=ZQ B.nd hqs
   rw [eq] at hnq
   obtain ⟨t',k',hs',hit⟩:=MV (B.src q hqs)
   obtain ⟨c,hc,hrow⟩:=W.calls hs' hit rfl
   have hc:q.2.br=(c:Int):=hc
   obtain ⟨pl,e1,h1⟩:=WM (ru:=ru) _ hit
   have e1:q.2.pl=pl:=e1
   have hcl:c < q.2.sp.row.2.length:=(List.getElem?_eq_some_iff.mp hrow).1
   obtain ⟨i,ei,hi,ep⟩:=YQ ks1 (q:=(q.2.sp.row,q.2.br)) ⟨c,hc,hcl⟩ (wayT ks1 w r)
   obtain rfl:c=i:=by have ei:q.2.br=(i:Int):=ei;lia
   have ew:wayT ks1 ((q.2.sp.row,q.2.br) :: w) r=.node q.2.sp.row.1 0 ((q.2.sp.row.2.map (QS ks1)).set c (wayT ks1 w r)):=ep
   obtain ⟨bs,eX,hbl,hbs⟩:=hr
   have hnm:nmT (wayT ks1 w r)=sp.row.1:=by rw [eX];rfl
   have hK:OfK f1 (h + 2) (kp d.1) (wayT ks1 w r):=⟨sp.row.2,by rw [hnm];exact W.row d _ hq,by rw [eX];exact hbl.symm,by rw [eX];exact hbs⟩
   have key:=MO W B hp r m q.2.sp t' k' (q.2.pl ++ p) ((q.2.sp.row,q.2.br) :: w) (h + 1) hs' (11:) ?_ ?_
   ·rw [Zi,hf]
    refine ⟨key.1,?_⟩
    have:=key.2
    rw [show h + 1 + 1 + q.2.sp.n=h + 1 + sp.n by lia] at this
    exact this
   ·rw [e1,ew]
    refine (h1 _).2 d.1 c d.2 ?_ p _ t ?_ (by rw [hnm];exact W.ru d (hp d hd) _ hq) hw
    ·show some (q.1.1,q.2.br,q.1.2)=_
     rw [eq,hc]
    ·show ((q.2.sp.row.2.map (QS ks1)).set c (wayT ks1 w r))[c]?=_
     rw [List.getElem?_set_self (by rw [List.length_map];exact hcl)]
   ·rw [ew]
    refine ⟨_,rfl,by rw [List.length_set,List.length_map],fun i b z hb hz=>?_⟩
    by_cases e:c=i
    ·subst e
     rw [List.getElem?_set_self (by rw [List.length_map];exact hcl)] at hb
     obtain rfl:=Option.some.inj hb
     rw [hrow] at hz
     obtain rfl:kp q.1.1=z:=Option.some.inj hz
     rw [eq]
     exact hK
    ·rw [List.getElem?_set_ne e,List.getElem?_map,hz,Option.map_some] at hb
     obtain rfl:=Option.some.inj hb
     exact W.leaves hs' z (List.mem_of_getElem? hz) _
theorem O3 (W:Wy f f1 n rl ru t0 k1 k0 kp ks1) (B:Bf f n rl (L0s f n t0 k1 k0) j s) (hp:∀ d ∈ s.ds,0≤d.1) {g:Spot × List Int} (hg:s.ft=some g) {u:Tree Str} (hu:(wayT ks1 (Zi s (g.1.n + 1) g.1.dm g.2 []).1 g.1.row).bs[0]?=some u) :
 Wr f ru (Zi s (g.1.n + 1) g.1.dm g.2 []).2 t0 (.node (S []) 0 [u]) k0∧OfK f1 (1 + g.1.n) k1 u:=by
 obtain ⟨t,k,hs,hit⟩:=MV (B.fs g hg)
 obtain ⟨pl,e1,h1⟩:=WM (ru:=ru) _ hit
 have e1:g.2=pl:=e1
 obtain ⟨a,b⟩:=MO W B hp g.1.row (g.1.n + 1) g.1 t k g.2 [] 0 hs (Nat.lt_succ_self _) (by rw [e1];exact (h1 _).1 rfl) ⟨_,rfl,List.length_map ..,fun i b z hb hz=>by
  rw [List.getElem?_map,hz,Option.map_some] at hb
  obtain rfl:=Option.some.inj hb
  exact W.leaves hs z (List.mem_of_getElem? hz) _⟩
 obtain ⟨bs,eX,hbl,hbs⟩:=b
 rw [eX] at hu
 have hbl:bs.length=1:=hbl
 match bs,hbl,hu with
 | [x],_,hu =>
  have hx:some x=some u:=hu
  obtain rfl:=Option.some.inj hx
  rw [eX] at a
  exact ⟨a,by have:=hbs 0 x k1 rfl rfl;rwa [Nat.zero_add] at this⟩
theorem Cl.right {es:List En} (C:Cl f n rl t0 k1 k0 s) (N:Kn f n rl (QG f n t0 k0) es) (h0:none ∉ QG f n t0 k0):s.ft=none ↔ ∀ e ∈ es,∀ x ∈ e.2.2,none ∉ (shX x).2:=by
 constructor
 ·intro h e he x hx hn
  have hd:e.1 ∈ s.ds:=N.lt (fun d=>d ∈ s.ds) (fun c hc=>(C.st c hc).1) (fun d hd r hr c hc=>(C.go d hd r hr c hc).1) e.1 (List.mem_map_of_mem he)
  obtain ⟨g,e1,_⟩:=C.fg e.1 hd (shX x) (by rw [← N.rw e he];exact List.mem_map_of_mem hx) hn
  rw [h] at e1;cases e1
 ·intro h
  cases eft:s.ft with
  | none=>rfl
  | some g =>
   have sub:∀ (k:Nat) (d:Dd),d ∈ s.ds→nOf s d=k→d ∈ es.map (·.1):=fun k=>by
    induction k with
    | zero =>
     intro d hd e
     rcases C.up d hd with ⟨_,x,hx,rfl⟩ | ⟨d',_,h',_⟩
     ·exact N.st x hx
     ·lia
    | succ k ih =>
     intro d hd e
     rcases C.up d hd with ⟨h',_⟩ | ⟨d',hd',h',r,hr,x,hx,rfl⟩
     ·lia
     ·exact N.go d' (ih d' hd' (11:)) r hr x hx
   rcases C.fs g eft with ⟨_,z⟩ | ⟨d,hd,r,hr,hn,_⟩
   ·exact absurd z h0
   ·obtain ⟨e,he,rfl⟩:=List.mem_map.mp (sub _ d hd rfl)
    rw [← N.rw e he] at hr
    obtain ⟨x,hx,rfl⟩:=List.mem_map.mp hr
    exact absurd hn (h e he x hx)
end
end K61
namespace K61
open PySem L2 TM TT K9 K11
def ruN (ks:List KdT) (ms:List MoT) (m:Int) (nm:Str):Option Tm:=if 0≤m then ((QB ks ms (m,nm)).find? fun q=>decide (q.1.1=nm)).map (·.2) else none
def NdV (K:PySem.W.Frag) (H:Hp) (v:V) (t:Tm) (r:Tree Str):Prop:=∃ a tv rv,v=.ref a∧SqT K H a [tv,rv]∧TmV K H tv t∧TrV K H rv r
theorem NdV.same {K:PySem.W.Frag} {H H':Hp} {v:V} {t:Tm} {r:Tree Str} (g:Same H H'):NdV K H v t r→NdV K H' v t r
 | ⟨a,tv,rv,e,h1,h2,h3⟩=>⟨a,tv,rv,e,g.seqT h1,h2.mono fun _ _=>g.seqT,h3.mono fun _ _=>g.seqT⟩
def TuK (K:PySem.W.Frag) (H:Hp) (tu:Addr) (ks1:List KdT) (t0:Tm) (ms:List MoT):Prop:=∃ (nm n:Nat) (wd lm:Addr) (sv:V),TuAt K H tu wd sv lm ks1 t0 ms∧TuOk ks1 nm n t0 ms
theorem TuK.same {K:PySem.W.Frag} {H H':Hp} {tu:Addr} {ks1:List KdT} {t0:Tm} {ms:List MoT} (g:Same H H'):TuK K H tu ks1 t0 ms→TuK K H' tu ks1 t0 ms
 | ⟨nm,n,wd,lm,sv,h,o⟩=>⟨nm,n,wd,lm,sv,h.same g,o⟩
def Ws (K:PySem.W.Frag):Sp:=fun vs H Q _=>∃ (tu:Addr) (ks1:List KdT) (t0:Tm) (ms:List MoT) (m:Int) (z:Str) (t:Tm),vs=[.ref tu,.int m,.str z]∧TuK K H tu ks1 t0 ms∧ruN ks1 ms m z=some t∧∀ (v:V) (H':Hp),Same H H'→TmV K H' v t→Q v H'
def J9 (K:PySem.W.Frag):Sp:=fun vs H Q _=>∃ (v:V) (r:Tree Str),vs=[.int 0,v]∧TrV K H v r∧∀ (p:Addr) (mk:Int) (H':Hp),Same H H'→SqT K H' p [.str (nmT r),.int mk,.int (r.bs.length:Nat)]→Q (.ref p) H'
def WR (K:PySem.W.Frag):Sp:=fun vs H Q _=>∃ (v:V) (t:Tm) (r:Tree Str) (nm:Str) (kp:Bool) (ad:Int),vs=[.int 1,v]∧NdV K H v t r∧lab t=.put nm kp ad∧∀ (p:Addr) (z:V) (H':Hp),Same H H'→SqT K H' p [.str nm,z,.int (t.bs.length:Nat)]→Q (.ref p) H'
def G7 (K:PySem.W.Frag):Sp:=fun vs H Q _=>∃ (c v:V) (r x:Tree Str) (k:Nat),vs=[c,.int 0,v,.int (k:Int)]∧TrV K H v r∧r.bs[k]?=some x∧∀ v',TrV K H v' x→Q v' H
def JG (K:PySem.W.Frag):Sp:=fun vs H Q _=>∃ (ch tu:Addr) (tv rv:V) (ks1:List KdT) (t0:Tm) (ms:List MoT) (n:Nat) (t t':Tm) (r r':Tree Str),vs=[.ref ch,.int 1,tv,rv]∧SqL K H ch [.ref tu]∧TuK K H tu ks1 t0 ms∧TmV K H tv t∧TrV K H rv r∧Cm (ruN ks1 ms) n t r t' r'∧∀ (v':V) (H':Hp),Same H H'→NdV K H' v' t' r'→Q v' H'
def V8 (K:PySem.W.Frag):Sp:=fun vs H Q _=>∃ (ch tu:Addr) (v:V) (k:Nat) (ks1:List KdT) (t0:Tm) (ms:List MoT) (n:Nat) (t ti t':Tm) (r r':Tree Str),vs=[.ref ch,.int 1,v,.int (k:Int)]∧SqL K H ch [.ref tu]∧TuK K H tu ks1 t0 ms∧NdV K H v t r∧t.bs[k]?=some ti∧Cm (ruN ks1 ms) n ti r t' r'∧∀ (v':V) (H':Hp),Same H H'→NdV K H' v' t' r'→Q v' H'
def Wa (K:PySem.W.Frag):Sp:=fun vs H Q _=>∃ (ch tu:Addr) (v:V) (ks1:List KdT) (t0:Tm) (ms:List MoT) (n:Nat) (t':Tm) (u r':Tree Str),vs=[.ref ch,v]∧SqL K H ch [.ref tu]∧TuK K H tu ks1 t0 ms∧TrV K H v u∧Cm (ruN ks1 ms) n t0 (.node (S []) 0 [u]) t' r'∧∀ (v':V) (H':Hp),Same H H'→NdV K H' v' t' r'→Q v' H'
section
variable {P:Program} {w:World} {K:PySem.W.Frag} {mg:Str→Option Value} {base:Heap} {f:Addr} {fd:FuncData}
theorem UK:FnScope ["_law_turning_here", "_law_mode", "_law_name", "_law_kind", "_law_rules", "_law_row_here", "_law_rule_here"] ["_law_turning_here", "_law_mode", "_law_name"] (defScope Lf):=(1:)
theorem Mo (F:Fun K "_law_rule" "_law_rule" Lf f fd) (G:Gm mg):FnOk P w K mg base CX0 1 f fd ["_law_turning_here", "_law_mode", "_law_name"] (Ws K):=by
 refine F.ok UK (8:) (4:)
 ·obtain ⟨tu,ks1,t0,ms,m,z,t,rfl,_⟩:=h
  rfl
 obtain ⟨tu,ks1,t0,ms,m,z,t,rfl,⟨nm,n,wd,lm,sv,hT,hO⟩,hru,q⟩:=h
 refine ⟨_,(Qe (JM (Qi Qx (45:) (pv 1) (3:)) (Zb rfl (Qw (Qq (i:=3) UK.nd rfl (7:)) (Qw (Qq (i:=4) UK.nd rfl (7:)) QX))))
  (Qe (QL PassesOwn.never rfl (WI rfl G.zip (Qa (Zg (Ze hr) (QE (QZ rfl) rfl G.dct PyProof.Rows.boot_dict (Qa (45:) Qd)) (pv 3) (3:)) (Qa (pv 4) Qd))) (Zb rfl (Qw (Qq (i:=5) UK.nd rfl (7:)) (Qw (Qq (i:=6) UK.nd rfl (7:)) QX)))
   (Qh (QF (Qp Q1 (Qi Qg (pv 5) Qb (3:)) (pv 2) (Qt _)) (Qh (Qo (pv 6))) Qu)))
  (Qh (Qo Q5)))),?_⟩
 unfold ruN at hru
 have hm0:0≤m:=by
  by_cases c:0≤m
  ·exact c
  ·rw [if_neg c] at hru;cases hru
 rw [if_pos hm0] at hru
 unfold QB at hru
 obtain ⟨i,rfl⟩ : ∃ i:Nat,m=(i:Int):=⟨m.toNat,by lia⟩
 rw [Int.toNat_natCast] at hru
 cases emo:ms[i]? with
 | none=>rw [emo] at hru;cases hru
 | some mo =>
 rw [emo] at hru
 have hmm:=List.mem_of_getElem? emo
 obtain ⟨kd,hkf,erow,hkm⟩:=QV (hO.kd mo hmm)
 have hru:(((kd.2.2.2.zip mo.2.2.2.2).map fun q=>((q.1.2.1,q.1.2.2.2),q.2)).find? fun q=>decide (q.1.1=z)).map (·.2)=some t:=by rw [← erow];exact hru
 rw [List.find?_map,Option.map_map] at hru
 have hrul:=hO.ru mo hmm
 rw [erow] at hrul
 have hatm:atI (ms.map fun m=>V.ref m.1) (i:Int)=some (.ref mo.1):=Qy (by rw [List.getElem?_map,emo];rfl)
 obtain ⟨m1,m2,m3⟩:=hT.mo mo hmm
 refine ⟨_,rfl,tu,_,2,_,rfl,rfl,hT.tu,rfl,_,rfl,lm,_,_,_,rfl,rfl,hT.lm,hatm,_,_,rfl,m1,rfl,_,_,rfl,_,_,rfl,rfl,?_⟩
 refine ⟨_,rfl,tu,_,0,_,rfl,rfl,hT.tu,rfl,wd,wts ks1,rfl,wdA hT.wd,wdB hT.wd,wdC hO.wo,wdD hO.wo,fun dd hdd=>⟨_,rfl,dd,.ref kd.2.2.1,rfl,UB Qc hkf,?_⟩⟩
 have g1:=Qf hdd (.dK (wkv ks1))
 generalize upd H dd (.dK (wkv ks1))=H1 at g1
 have hT1:=hT.same g1
 have hxl:(kd.2.2.2.map fun t=>V.ref t.1).length=mo.2.2.2.1.length:=by rw [List.length_map,hrul];exact m3.length.symm
 have hml:=m3.length
 refine ⟨_,rfl,kd.2.2.1,mo.2.2.1,_,_,rfl,(hT1.wd.2 kd hkm).2.1,(hT1.mo mo hmm).2.1,?_⟩
 refine JJ (K:=K) (xs:=kd.2.2.2.map fun t=>V.ref t.1) (ys:=mo.2.2.2.1) hxl (fun j σ H'=>∃ (c5 c6:Option V),σ=[some (.ref tu),some (.int (i:Int)),some (.str z),some (.str mo.2.1),some (.ref mo.2.2.1),c5,c6]∧Same H H'∧(((kd.2.2.2.zip mo.2.2.2.2).drop j).find? fun q=>decide (q.1.2.1=z)).map (·.2)=some t) ⟨none,none,rfl,g1,hru⟩ ?_ ?_ ?_
 ·rintro j σ H' _ ⟨_,_,_,g,_⟩
  have hT':=hT.same g
  exact ⟨(hT'.wd.2 kd hkm).2.1,(hT'.mo mo hmm).2.1⟩
 ·rintro j u v p σ H' hu hv hp ⟨c5,c6,rfl,g,hf⟩
  have hj:j < kd.2.2.2.length:=by
   have:=(List.getElem?_eq_some_iff.mp hu).1
   rwa [List.length_map] at this
  have hjt:j < mo.2.2.2.2.length:=by lia
  obtain rfl:u=.ref kd.2.2.2[j].1:=by
   rw [List.getElem?_map,List.getElem?_eq_getElem hj] at hu
   exact (Option.some.inj hu).symm
  have gp:=Qf hp (.tup [.ref kd.2.2.2[j].1,v])
  have g2:=g.trans gp
  have hT2:=hT.same g2
  obtain ⟨r1,r2⟩:=(hT2.wd.2 kd hkm).2.2 _ (List.getElem_mem hj)
  obtain ⟨cv,hcv,hct⟩:=(hT2.mo mo hmm).2.2.get (List.getElem?_eq_getElem hjt)
  obtain rfl:cv=v:=Option.some.inj (hcv.symm.trans hv)
  refine ⟨p,_,rfl,SqT.of Qc,rfl,_,_,rfl,_,_,rfl,rfl,?_⟩
  have hz:j < (kd.2.2.2.zip mo.2.2.2.2).length:=by rw [List.length_zip];lia
  rw [List.drop_eq_getElem_cons hz,List.find?_cons,List.getElem_zip] at hf
  refine ⟨_,rfl,_,_,0,_,rfl,rfl,r1,rfl,_,rfl,rfl,_,rfl,?_⟩
  by_cases he:kd.2.2.2[j].2.1=z
  ·rw [decide_eq_true he] at hf
   have hf:mo.2.2.2.2[j]=t:=Option.some.inj hf
   refine Yr (by rw [he]) ⟨_,rfl,q _ _ g2 (by rw [← hf];exact hct)⟩
  ·rw [decide_eq_false he] at hf
   exact ZP (fun z=>he (by injection z)) ⟨_,_,rfl,g2,hf⟩
 ·rintro σ H' ⟨c5,c6,rfl,g,hf⟩
  rw [List.drop_of_length_le (by rw [List.length_zip,List.length_map];lia)] at hf
  cases hf
theorem Lx:FnScope ["_law_i", "_law_node", "_law_mark"] ["_law_i", "_law_node"] (defScope J7):=(1:)
theorem L9 (F:Fun K "_law_label" "_law_label" J7 f fd) (G:Gm mg):FnOk P w K mg base CX0 1 f fd ["_law_i", "_law_node"] (J9 K):=by
 refine F.ok Lx (8:) (4:)
 ·obtain ⟨v,r,rfl,_⟩:=h
  rfl
 obtain ⟨v,r,rfl,hv,q⟩:=h
 refine ⟨_,Qe (QF (Qp Q1 (pv 0) Qb (Qt _)) (Qh (Qo (Qv (Qa (25:) (Qa (25:) (Qa (Qr Qn rfl G.len PySem.boot_len (Qa (25:) Qd)) Qd)))))) Qu) Zn,?_⟩
 obtain ⟨a,b,vs,name,mark,rfl,et,h1,h2,h3,h4⟩:=Z2 hv
 refine ⟨_,rfl,rfl,_,rfl,Yr rfl ?_⟩
 refine ⟨_,rfl,a,_,0,_,rfl,rfl,h1,rfl,_,rfl,a,_,1,_,rfl,rfl,h1,rfl,_,rfl,a,_,2,_,rfl,rfl,h1,rfl,b,_,rfl,.inr h2,(20:),fun p hp=>?_⟩
 refine q p mark _ (Qf hp _) ?_
 rw [← h3.length,show nmT r=name by rw [et];rfl]
 exact SqT.of Qc
theorem Mu (F:Fun K "_law_label" "_law_label" J7 f fd) (G:Gm mg) (R:Fn P w K mg base 1 "_law_label" ["_law_i", "_law_node"] (J9 K)):FnOk P w K mg base CX0 2 f fd ["_law_i", "_law_node"] (WR K):=by
 refine F.ok Lx (8:) (4:)
 ·obtain ⟨v,t,r,nm,kp,ad,rfl,_⟩:=h
  rfl
 obtain ⟨v,t,r,nm,kp,ad,rfl,⟨a,tv,rv,rfl,ha,htv,hrv⟩,hl,q⟩:=h
 refine ⟨_,(Qe (QF (Qp Q1 (pv 0) Qb (Qt _)) Zn Qu)
  (Qe (Ql (i:=2) Lx.nd rfl (7:) (Qi Qg (Qs R hr (Qa (Qm ZS (pv 0) Qb) (Qa (25:) Qd))) Qb (3:)))
  (Qh (Qo (Qv (Qa (Qi Qg (25:) Qb (3:)) (Qa (Qm QK (Qi Qg (25:) Qb (3:)) (Qm ZR (pv 2) (QE Jf rfl G.int PyProof.Rows.boot_int (Qa (Qi Qg (25:) Qb (3:)) Qd)))) (Qa (Qr Qn rfl G.len PySem.boot_len (Qa (Qi Qg (25:) Qb (3:)) Qd)) Qd)))))))),?_⟩
 refine ⟨_,rfl,rfl,_,rfl,ZP (44:) ?_⟩
 refine ⟨_,rfl,_,_,rfl,rfl,_,rfl,a,_,1,_,rfl,rfl,ha,rfl,rv,r,rfl,hrv,fun p mk H1 g1 hp=>⟨p,_,1,_,rfl,rfl,hp,rfl,?_⟩⟩
 have ha1:=g1.seqT ha
 rcases Yk (htv.mono fun _ _=>g1.seqT) with ⟨ta,m,b,rfl,rfl,_⟩ | ⟨ta,b,bs,nm',k',ad',rfl,et,h1,h2,h3,h4⟩
 ·cases hl
 have e1:nm'=nm:=by rw [et] at hl;injection hl
 subst e1
 refine ⟨_,rfl,a,_,0,_,rfl,rfl,ha1,rfl,ta,_,1,_,rfl,rfl,h1,rfl,?_⟩
 refine ⟨_,rfl,a,_,0,_,rfl,rfl,ha1,rfl,ta,_,3,_,rfl,rfl,h1,rfl,_,rfl,_,rfl,a,_,0,_,rfl,rfl,ha1,rfl,ta,_,2,_,rfl,rfl,h1,rfl,.inr ⟨k',rfl,_,_,rfl,rfl,.inr (by cases k' <;> decide),_,_,rfl,rfl,?_⟩⟩
 refine ⟨_,rfl,a,_,0,_,rfl,rfl,ha1,rfl,ta,_,4,_,rfl,rfl,h1,rfl,b,_,rfl,.inr h2,(20:),fun p' hp'=>?_⟩
 refine q p' (.int (ad' + (mk * if k'=true then 1 else 0))) _ (g1.trans (Qf hp' _)) ?_
 rw [← h3.length]
 exact SqT.of Qc
theorem OL:FnScope ["_law_chain", "_law_i", "_law_node", "_law_k"] ["_law_chain", "_law_i", "_law_node", "_law_k"] (defScope Us):=(1:)
theorem Ng (F:Fun K "_law_branch" "_law_branch" Us f fd):FnOk P w K mg base CX0 1 f fd ["_law_chain", "_law_i", "_law_node", "_law_k"] (G7 K):=by
 refine F.ok OL (8:) (4:)
 ·obtain ⟨c,v,r,x,k,rfl,_⟩:=h
  rfl
 obtain ⟨c,v,r,x,k,rfl,hv,hx,q⟩:=h
 refine ⟨_,Qe (QF (Qp Q1 (pv 1) Qb (Qt _)) (Qh (Qo (Qi Qg (31:) (pv 3) (3:)))) Qu) Zn,?_⟩
 obtain ⟨a,b,vs,name,mark,rfl,et,h1,h2,h3,h4⟩:=Z2 hv
 obtain ⟨cv,hcv,hct⟩:=h3.get hx
 refine ⟨_,rfl,rfl,_,rfl,Yr rfl ?_⟩
 exact ⟨_,rfl,a,_,2,_,rfl,rfl,h1,rfl,_,rfl,b,_,_,_,rfl,rfl,h2,Qy hcv,q cv hct⟩
theorem Wf:FnScope ["_law_chain", "_law_i", "_law_term", "_law_read"] ["_law_chain", "_law_i", "_law_term", "_law_read"] (defScope GS):=(1:)
theorem Mg (F:Fun K "_law_come" "_law_come" GS f fd) (RB:Fn P w K mg base 1 "_law_branch" ["_law_chain", "_law_i", "_law_node", "_law_k"] (G7 K)) (RR:Fn P w K mg base 1 "_law_rule" ["_law_turning_here", "_law_mode", "_law_name"] (Ws K)) (RL:Fn P w K mg base 1 "_law_label" ["_law_i", "_law_node"] (J9 K)):FnOk P w K mg base CX0 2 f fd ["_law_chain", "_law_i", "_law_term", "_law_read"] (JG K):=by
 refine F.ok Wf (8:) (4:)
 ·obtain ⟨ch,tu,tv,rv,ks1,t0,ms,n,t,t',r,r',rfl,_⟩:=h
  rfl
 obtain ⟨ch,tu,tv,rv,ks1,t0,ms,n,t,t',r,r',rfl,hch,hT,htv,hrv,hC,q⟩:=h
 refine ⟨_,(Qe (YE PassesOwn.never (Qp Q1 (31:) Zx (Qt _)) (Qe (Ql (i:=3) Wf.nd rfl (7:) (Qs RB hr (Qa (pv 0) (Qa (Qm ZS (pv 1) Qb) (Qa (pv 3) (Qa (31:) Qd))))))
  (Qh (Ql (i:=2) Wf.nd rfl (7:) (Qs RR hr (Qa (Qi Qx (pv 0) (Qm ZS (pv 1) Qb) (3:)) (Qa (31:) (Qa (Qi Qg (Qs RL hr (Qa (Qm ZS (pv 1) Qb) (Qa (pv 3) Qd))) Qb (3:)) Qd))))))))
  (Qh (Qo (Qv (Qa (pv 2) (Qa (pv 3) Qd)))))),?_⟩
 refine Uq (fun m σ H'=>∃ (tv rv:V) (t:Tm) (r:Tree Str),σ=[some (.ref ch),some (.int 1),some tv,some rv]∧Same H H'∧TmV K H' tv t∧TrV K H' rv r∧Cm (ruN ks1 ms) m t r t' r') n ⟨tv,rv,t,r,rfl,.refl _,htv,hrv,hC⟩ ?_ ?_
 ·rintro m σ H' ⟨tv,rv,t,r,rfl,g,htv,hrv,hC⟩
  cases hC with
  | put hl =>
   rcases Yk htv with ⟨ta,m,b,rfl,rfl,_⟩ | ⟨ta,b,bs,nm',k',ad',rfl,et,h1,h2,h3,h4⟩
   ·cases hl
   refine ⟨_,rfl,ta,_,0,_,rfl,rfl,h1,rfl,rfl,_,rfl,ZP (fun z=>absurd z (18:)) ?_⟩
   refine ⟨_,rfl,_,rfl,(23:),fun p hp=>?_⟩
   have gp:=Qf hp (.tup [.ref ta,rv])
   exact q _ _ (g.trans gp) ⟨p,_,_,rfl,SqT.of Qc,htv.mono fun _ _=>gp.seqT,hrv.mono fun _ _=>gp.seqT⟩
  | call i hl hx hru hC =>
   rename_i m' t1 x md
   rcases Yk htv with ⟨ta,m2,b2,rfl,rfl,h1⟩ | ⟨ta,b,bs,nm',k',ad',rfl,et,h1,h2,h3,h4⟩
   ·obtain ⟨rfl,rfl⟩ : m2=md∧b2=(i:Int):=by injection hl with e1 e2;exact ⟨e1,e2⟩
    refine ⟨_,rfl,ta,_,0,_,rfl,rfl,h1,rfl,rfl,_,rfl,Yr rfl ?_⟩
    refine ⟨_,rfl,_,rfl,_,_,rfl,rfl,_,rfl,_,rfl,ta,_,2,_,rfl,rfl,h1,rfl,_,rv,r,x,i,rfl,hrv,hx,fun xv hxv=>?_⟩
    refine ⟨_,rfl,_,rfl,_,_,rfl,rfl,ch,_,0,_,rfl,rfl,g.seq hch,rfl,_,rfl,ta,_,1,_,rfl,rfl,h1,rfl,_,rfl,_,_,rfl,rfl,_,rfl,xv,x,rfl,hxv,fun p mk H1 g1 hp=>?_⟩
    refine ⟨p,_,0,_,rfl,rfl,hp,rfl,tu,ks1,t0,ms,_,_,t1,rfl,(hT.same g).same g1,hru,fun v H2 g2 hv=>?_⟩
    have g12:=g1.trans g2
    exact ⟨m',Nat.lt_succ_self _,v,xv,t1,x,rfl,g.trans g12,hv,hxv.mono fun _ _=>g12.seqT,hC⟩
   ·rw [et] at hl;cases hl
 ·intro σ H Q Q' hm h
  obtain ⟨v1,h1,a,b,c,d,h2,h3,h4,h5,h6,v2,h7,h8⟩:=h
  exact ⟨v1,h1,a,b,c,d,h2,h3,h4,h5,h6,v2,h7,hm _ _ h8⟩
theorem NS (F:Fun K "_law_branch" "_law_branch" Us f fd) (RC:Fn P w K mg base 2 "_law_come" ["_law_chain", "_law_i", "_law_term", "_law_read"] (JG K)):FnOk P w K mg base CX0 3 f fd ["_law_chain", "_law_i", "_law_node", "_law_k"] (V8 K):=by
 refine F.ok OL (8:) (4:)
 ·obtain ⟨ch,tu,v,k,ks1,t0,ms,n,t,ti,t',r,r',rfl,_⟩:=h
  rfl
 obtain ⟨ch,tu,v,k,ks1,t0,ms,n,t,ti,t',r,r',rfl,hch,hT,⟨a,tv,rv,rfl,ha,htv,hrv⟩,hti,hC,q⟩:=h
 refine ⟨_,(Qe (QF (Qp Q1 (pv 1) Qb (Qt _)) Zn Qu)
  (Qh (Qo (Qs RC hr (Qa (pv 0) (Qa (pv 1) (Qa (Qi Qg (Qi Qg (31:) Qb (3:)) (pv 3) (3:)) (Qa (31:) Qd)))))))),?_⟩
 refine ⟨_,rfl,rfl,_,rfl,ZP (44:) ?_⟩
 rcases Yk htv with ⟨ta,m2,b2,rfl,rfl,h1⟩ | ⟨ta,b,bs,nm',k',ad',rfl,et,h1,h2,h3,h4⟩
 ·have:([]:List Tm)[k]?=some ti:=hti
  cases this
 obtain ⟨cv,hcv,hct⟩:=h3.get hti
 exact ⟨_,rfl,_,rfl,_,rfl,a,_,0,_,rfl,rfl,ha,rfl,ta,_,4,_,rfl,rfl,h1,rfl,_,rfl,b,_,_,_,rfl,rfl,h2,Qy hcv,_,rfl,a,_,1,_,rfl,rfl,ha,rfl,ch,tu,cv,rv,ks1,t0,ms,n,ti,t',r,r',rfl,hch,hT,hct,hrv,hC,q⟩
theorem WH:FnScope ["_law_chain", "_law_tree", "_law_read", "_law_i"] ["_law_chain", "_law_tree"] (defScope GB):=(1:)
theorem Me (F:Fun K "_law_root" "_law_root" GB f fd) (G:Gm mg) (RC:Fn P w K mg base 2 "_law_come" ["_law_chain", "_law_i", "_law_term", "_law_read"] (JG K)):FnOk P w K mg base CX0 3 f fd ["_law_chain", "_law_tree"] (Wa K):=by
 refine F.ok WH (8:) (4:)
 ·obtain ⟨ch,tu,v,ks1,t0,ms,n,t',u,r',rfl,_⟩:=h
  rfl
 obtain ⟨ch,tu,v,ks1,t0,ms,n,t',u,r',rfl,hch,hT,hu,hC,q⟩:=h
 refine ⟨_,(Qe (Ql (i:=2) WH.nd rfl (7:) (Qv (Qa (Zx) (Qa (Qb) (Qa ((Qv (Qa (pv 1) Qd))) Qd)))))
  (Qe (QL PassesOwn.never rfl (Vp rfl G.rng (Qa (Qb) (Qa (Qr Qn rfl G.len PySem.boot_len (Qa (pv 0) Qd)) Qd))) (Qq (i:=3) WH.nd rfl (7:)) Zn)
  (Qh (Qo (Qs RC hr (Qa (pv 0) (Qa (Qr Qn rfl G.len PySem.boot_len (Qa (pv 0) Qd)) (Qa (Qi Qg (Qi Qx (pv 0) (Ov Nv Qb) (3:)) Qb (3:)) (Qa (pv 2) Qd))))))))),?_⟩
 refine ⟨_,rfl,(35:),fun p1 hp1=>⟨(20:),fun p2 hp2=>?_⟩⟩
 have k1:=Qf hp1 (.tup [v])
 have k2:=Qf hp2 (.tup [.str (S []),.int 0,.ref p1])
 have k12:=k1.trans k2
 have htr:TrV K (upd (upd H p1 (.tup [v])) p2 (.tup [.str (S []),.int 0,.ref p1])) (.ref p2) (.node (S []) 0 [u]):=.mk (SqT.of Qc) (k2.seqT (SqT.of Qc)) (.cons (hu.mono fun _ _=>k12.seqT) .nil) (by show 1≤1000;decide)
 have hch2:=k12.seq hch
 refine ⟨_,rfl,ch,_,rfl,.inl hch2,1,1,rfl,⟨by decide,by decide,by decide,by decide⟩,?_⟩
 refine Q7 (lo:=1) (n:=0) (fun _ σ H'=>σ=[some (.ref ch),some v,some (.ref p2),none]∧H'=upd (upd H p1 (.tup [v])) p2 (.tup [.str (S []),.int 0,.ref p1])) ⟨rfl,rfl⟩ (fun i σ H' hi=>absurd hi (Nat.not_lt_zero _)) ?_
 rintro σ H' ⟨rfl,rfl⟩
 have hT2:=hT.same k12
 obtain ⟨nm,n',wd,lm,sv,hTu,hO⟩:=id hT2
 exact ⟨_,rfl,_,rfl,ch,_,rfl,.inl hch2,_,rfl,_,rfl,ch,_,_,_,rfl,rfl,hch2,rfl,tu,_,1,_,rfl,rfl,hTu.tu,rfl,_,rfl,ch,tu,sv,.ref p2,ks1,t0,ms,n,t0,t',_,r',rfl,hch2,hT2,hTu.st,htr,hC,fun v' H' g' hn=>q v' H' (k12.trans g') hn⟩
end
end K61
namespace K61
open PySem L2 TM TT K9 K11
theorem Wr.step {f:RK} {ru:Int→Str→Option Tm} {x:Int} {p:List Int} {t:Tm} {r:Tree Str} {k nm:Str} {kp:Bool} {ad:Int} (h:Wr f ru (x :: p) t r k) (hl:lab t=.put nm kp ad):∃ (c:Nat) (ss:List Str) (ti:Tm) (ki:Str),x=(c:Int)∧f k nm=some ss∧ss.length=t.bs.length∧t.bs[c]?=some ti∧ss[c]?=some ki∧Wr f ru p ti r ki:=by
 generalize hq:x :: p=q at h
 cases h with
 | call i h1=>rw [hl] at h1;cases h1
 | here h1 h2=>cases hq
 | down i h1 h2 h3 h4 h5 h6 =>
  rw [hl] at h1
  obtain ⟨rfl,_,_⟩:=Lab.put.inj h1
  obtain ⟨rfl,rfl⟩:=List.cons.inj hq
  exact ⟨i,_,_,_,rfl,h2,h3,h4,h5,h6⟩
theorem Wr.fin {f:RK} {ru:Int→Str→Option Tm} {t:Tm} {r:Tree Str} {k nm:Str} {kp:Bool} {ad:Int} (h:Wr f ru [] t r k) (hl:lab t=.put nm kp ad):¬ NF f k nm t.bs.length:=by
 generalize hq:([]:List Int)=q at h
 cases h with
 | call i h1=>rw [hl] at h1;cases h1
 | here h1 h2 =>
  rw [hl] at h1
  obtain ⟨rfl,_,_⟩:=Lab.put.inj h1
  exact h2
 | down i h1 h2 h3 h4 h5 h6=>cases hq
theorem AkL.non {K:PySem.W.Frag} {H:Hp} {l:List (V × Ak)} {as:List Ak} (hA:AkL K H l as):(∀ v ∈ l.map (·.1),v=.non∨∃ a xs,v=.ref a∧SqT K H a xs)∧(V.non ∈ l.map (·.1) ↔ none ∈ as):=by
 refine ⟨fun v hv=>?_,?_⟩
 ·obtain ⟨x,hx,rfl⟩:=List.mem_map.mp hv
  have:=hA.2 x hx
  cases e:x.2 with
  | none=>rw [e] at this;exact .inl this
  | some c=>rw [e] at this;obtain ⟨a,e1,e2⟩:=this;exact .inr ⟨a,_,e1,e2⟩
 ·rw [← hA.1]
  constructor
  ·intro z
   obtain ⟨x,hx,e⟩:=List.mem_map.mp z
   have:=hA.2 x hx
   cases e2:x.2 with
   | none=>rw [← e2];exact List.mem_map_of_mem hx
   | some c =>
    rw [e2] at this
    obtain ⟨a,e1,_⟩:=this
    rw [e] at e1;cases e1
  ·intro z
   obtain ⟨x,hx,e⟩:=List.mem_map.mp z
   have:=hA.2 x hx
   rw [e] at this
   have this:x.1=.non:=this
   rw [← this];exact List.mem_map_of_mem hx
def mdK (m:MoT):Str × List V × List Tm:=(m.2.1,m.2.2.2.1,m.2.2.2.2)
def WB (K:PySem.W.Frag):Sp:=fun vs H Q _=>∃ (tu wd lm:Addr) (sv:V) (ks:List KdT) (t0:Tm) (ms:List MoT),vs=[.ref tu]∧TuAt K H tu wd sv lm ks t0 ms∧WoodOk ks∧ms.length≤10 ∧
 ∀ (tu' wd' lm':Addr) (hs:List KdT) (ms':List MoT) (H':Hp),Same H H'→TuAt K H' tu' wd' sv lm' hs t0 ms'→hs.map QH=ks.map QH→ms'.map mdK=ms.map mdK→Q (.ref tu') H'
abbrev Yo (K:PySem.W.Frag):List V→Hp→VK→Prop:=fun xs H Q=>∃ p ys,xs=[.ref p]∧(SqL K H p ys∨SqT K H p ys)∧∀ l,H l=none→Q (.ref l) (upd H l (.lst ys))
def Xu (K:PySem.W.Frag) (n:Nat):Sp:=fun vs H Q _=>∃ (w:Addr) (kind:Str) (v:V) (t:Tree Str) (ks:List KdT),vs=[.ref w,.str kind,v,.int (n:Int)]∧WoodAt K H w ks∧WG ks∧(∃ k ∈ ks,k.2.1=kind)∧TrV K H v t∧OfK (46:) n kind t∧∀ H':Hp,Same H H'→Q (.bl true) H'
def YT (K:PySem.W.Frag):Sp:=fun vs H Q _=>∃ (tu lo pl:Addr) (v:V) (ks1 ks:List KdT) (k00:KdT) (t0:Tm) (ms:List MoT) (q:List Int) (u:Tree Str),vs=[.ref tu,.ref lo,v,.ref pl]∧TuK K H tu ks1 t0 ms∧WoodAt K H lo ks∧WG ks∧ks[0]?=some k00∧TrV K H v u∧SqT K H pl (q.map V.int)∧Wr (46:) (ruN ks1 ms) q t0 (.node (S []) 0 [u]) k00.2.1∧∀ H':Hp,Same H H'→Q (.bl true) H'
def Xe (K:PySem.W.Frag) (n:Nat):Sp:=fun vs H Q _=>∃ (nm:Nat) (tu wd lm lo:Addr) (sv:V) (ks1 ks:List KdT) (k00:KdT) (t0:Tm) (ms:List MoT) (k1:Str) (s:Stt),vs=[.ref tu,.ref lo]∧TuAt K H tu wd sv lm ks1 t0 ms∧TuOk ks1 nm n t0 ms∧WoodAt K H lo ks∧WG ks∧ks[0]?=some k00∧nm * ks.length≤1000∧n≤3∧(∀ k ∈ ks,PyData.strOk k.2.1=true) ∧
 (∀ k,(QG (46:) n t0 k).length≤1000)∧(∀ m ∈ ms,m.2.2.2.2.length≤10∧∀ t ∈ m.2.2.2.2,∀ k,(QG (46:) n t k).length≤1000)∧Cl (46:) n (QB ks1 ms) t0 k1 k00.2.1 s ∧
 ∀ (b:Bool) (H':Hp),Same H H'→(b=true ↔ s.ft=none)→Q (.bl b) H'
section
variable {P:Program} {w:World} {K:PySem.W.Frag} {mg:Str→Option Value} {base:Heap} {f:Addr} {fd:FuncData}
abbrev Vs:List Str:=["_law_wood_here", "_law_kind", "_law_tree", "_law_deep"]
theorem GC:FnScope ["_law_wood_here", "_law_kind", "_law_tree", "_law_deep", "_law_branch_here", "_law_inner"] Vs (defScope GA):=(1:)
theorem Nx {n:Nat} (F:Fun K "_law_of_kind" "_law_of_kind" GA f fd) (G:Gm mg) (RW:Fn P w K mg base 1 "_law_whole" ["_law_found"] YA) (RR:Fn P w K mg base 1 "_law_row" ["_law_wood_here", "_law_kind", "_law_name"] (Ub K)) (RF:Fn P w K mg base 2 "_law_fits" ["_law_wood_here", "_law_kind", "_law_label_here"] (Yn K)) (R:Fn P w K mg base (n + 2) "_law_of_kind" Vs (Xu K n)):FnOk P w K mg base CX0 (n + 3) f fd Vs (Xu K (n + 1)):=by
 refine F.ok GC (8:) (4:)
 ·obtain ⟨w,kind,v,t,ks,rfl,_⟩:=h
  rfl
 obtain ⟨lw,kind,v,t,ks,rfl,hW,hG,hkind,hv,⟨ss,er,el,hb⟩,q⟩:=h
 refine ⟨_,(Qe (QF (PW.pt (pw_or (Zf (Q0 (Qr Zm rfl G.isi PyProof.Rows.boot_isinstance (Qa (pv 2) (58:))))) (pw_or (Qp GV (Qr Qn rfl G.len PySem.boot_len (Qa (pv 2) Qd)) Qb (Qt _)) (pw_or (Zf (Q0 (Qr Zu rfl G.isi PyProof.Rows.boot_isinstance (Qa (31:) (Qa (Zw (v:=.ty "str") rfl G.str PyProof.Rows.boot_str rfl) Qd))))) (pw_or1 (Qp Q1 (pv 3) Qb (Qt _))))))) (Qh (Qo Zq)) Qu)
  (Qe (QF (PW.pt (pw_or (Zf (Q0 (Qs RW hr (Qa (31:) Qd) (11:)))) (pw_or1 (Zf (Q0 (Qr Zm rfl G.isi PyProof.Rows.boot_isinstance (Qa (31:) (58:)))))))) (Qh (Qo Zq)) Qu)
  (Qe (QF (Zf (Q0 (Qs RF hr (Qa (pv 0) (Qa (pv 1) (Qa ((Qv (Qa (31:) (Qa (Qb) (Qa (Qr Qn rfl G.len PySem.boot_len (Qa (31:) Qd)) Qd))))) Qd))) (11:)))) (Qh (Qo Zq)) Qu)
  (Qe (QL PassesOwn.never rfl (WV rfl G.zip (Qa (Qs RR hr (Qa (pv 0) (Qa (pv 1) (Qa (31:) Qd))) (11:)) (Qa (31:) Qd))) (Zb rfl (Qw (Qq (i:=4) GC.nd rfl (7:)) (Qw (Qq (i:=5) GC.nd rfl (7:)) QX)))
   (Qh (QF (Zf (Q0 (Qs R hr (Qa (pv 0) (Qa (pv 4) (Qa (pv 5) (Qa (Qm ZS (pv 3) Qb) Qd)))) (9:)))) (Qh (Qo Zq)) Qu)))
  (Qh (Qo Zq)))))),?_⟩
 obtain ⟨a,b,us,name,mark,rfl,et,h1,h2,h3,h4⟩:=Z2 hv
 have enm:nmT t=name:=by rw [et];rfl
 rw [enm] at er
 have l1:=h3.length
 refine ⟨_,rfl,a,_, "tuple", true,rfl,h1,rfl,_,rfl,Q3 ⟨_,rfl,a,_,rfl,.inr h1,rfl,_,rfl,Gu rfl ⟨_,rfl,a,_,0,_,rfl,rfl,h1,rfl,_, "str", _,true,rfl,.str _,rfl,_,rfl,Q3 ⟨_,rfl,rfl,_,rfl,ZP (fun z=>by injection z with z;lia) ?_⟩⟩⟩⟩
 refine ⟨_,rfl,a,_,1,_,rfl,rfl,h1,rfl,mark,rfl,_,rfl,Q3 ⟨_,rfl,a,_,2,_,rfl,rfl,h1,rfl,b,_, "tuple", true,rfl,h2,rfl,_,rfl,Q3 ?_⟩⟩
 refine ⟨_,rfl,_,rfl,_,rfl,a,_,0,_,rfl,rfl,h1,rfl,_,rfl,a,_,2,_,rfl,rfl,h1,rfl,b,_,rfl,.inr h2,(20:),fun lb hlb=>?_⟩
 have g1:=Qf hlb (.tup [.str name,.int 0,.int ((us.length:Nat):Int)])
 refine ⟨lw,lb,kind,name,.int 0,_,ks,rfl,hW.same g1,hG.ok,hkind,SqT.of Qc,fun bb H2 g2 hiff=>⟨_,rfl,?_⟩⟩
 obtain rfl:bb=true:=hiff.mpr ⟨ss,er,by lia⟩
 have g12:=g1.trans g2
 refine Q3 ⟨_,rfl,_,rfl,_,rfl,a,_,0,_,rfl,rfl,g12.seqT h1,rfl,lw,kind,name,ks,rfl,hW.same g12,hG.ok,hkind,fun rv H3 g3 hrv=>?_⟩
 rw [er] at hrv
 obtain ⟨br,rfl,hbr⟩:=hrv
 have g13:=g12.trans g3
 have esl:(ss.map V.str).length=ss.length:=List.length_map ..
 refine ⟨_,rfl,a,_,2,_,rfl,rfl,g13.seqT h1,rfl,br,b,_,us,rfl,hbr,g13.seqT h2,?_⟩
 refine XD (K:=K) (by rw [esl];lia) (fun i σ H'=>∃ c4 c5:Option V,σ=[some (.ref lw),some (.str kind),some (.ref a),some (.int ((n + 1:Nat):Int)),c4,c5]∧Same H3 H') ⟨none,none,rfl,Same.refl _⟩ ?_ ?_ ?_
 ·rintro i σ H' _ ⟨c4,c5,_,g⟩
  exact ⟨g.seqT hbr,(g13.trans g).seqT h2⟩
 ·rintro i u v p σ H' hu hv hp ⟨c4,c5,rfl,g⟩
  have hib:i < t.bs.length:=by have:=(List.getElem?_eq_some_iff.mp hv).1;lia
  have his:i < ss.length:=by lia
  obtain ⟨cv,hcv,hct⟩:=h3.get (List.getElem?_eq_getElem hib)
  obtain rfl:cv=v:=Option.some.inj (hcv.symm.trans hv)
  obtain rfl:u=.str ss[i]:=by
   rw [List.getElem?_map,List.getElem?_eq_getElem his] at hu
   exact (Option.some.inj hu).symm
  have gp:=g.trans (Qf hp (.tup [.str ss[i],cv]))
  have gg:=g13.trans gp
  refine ⟨p,_,rfl,SqT.of Qc,rfl,_,_,rfl,_,_,rfl,rfl,?_⟩
  refine ⟨_,rfl,_,rfl,_,rfl,_,rfl,_,_,rfl,rfl,lw,_,cv,t.bs[i],ks,?_,hW.same gg,hG,Yc hG er (List.getElem_mem his),hct.mono fun _ _=>gg.seqT,hb i _ _ (List.getElem?_eq_getElem hib) (List.getElem?_eq_getElem his),fun H4 g4=>⟨_,rfl,Q3 ⟨_,_,rfl,gp.trans g4⟩⟩⟩
  show [V.ref lw,V.str ss[i],cv,V.int (((n + 1:Nat):Int) - 1)]=_
  rw [show (((n + 1:Nat):Int) - 1)=(n:Int) by lia]
 ·rintro σ H' ⟨c4,c5,rfl,g⟩
  exact q H' (g13.trans g)
theorem Vk (F:Fun K "_law_of_kind" "_law_of_kind" GA f fd) (G:Gm mg) (RW:Fn P w K mg base 1 "_law_whole" ["_law_found"] YA) (RR:Fn P w K mg base 1 "_law_row" ["_law_wood_here", "_law_kind", "_law_name"] (Ub K)) (RF:Fn P w K mg base 2 "_law_fits" ["_law_wood_here", "_law_kind", "_law_label_here"] (Yn K)) (b:Binds K fd Vs []) (hm:mg "_law_of_kind" = some (.ref f)):∀ n:Nat,FnOk P w K mg base CX0 (n + 2) f fd Vs (Xu K n)
 | 0=>⟨fun vs H Q E h=>by obtain ⟨w,kind,v,t,ks,rfl,_⟩:=h;rfl,fun A outer s H args us vs Q E _ _ _ _ h=>by obtain ⟨w,kind,v,t,ks,_,_,_,_,_,h,_⟩:=h;exact h.elim⟩
 | n + 1=>Nx F G RW RR RF ⟨f,fd,Vk F G RW RR RF b hm n,b,F.kp,hm⟩
abbrev waP:List Str:=["_law_turning_here", "_law_out", "_law_tree", "_law_found"]
theorem Wc:FnScope ["_law_turning_here", "_law_out", "_law_tree", "_law_found", "_law_kind", "_law_node", "_law_k", "_law_label_here"] waP (defScope U2):=(1:)
theorem OB (F:Fun K "_law_wrong_at" "_law_wrong_at" U2 f fd) (G:Gm mg) (RW:Fn P w K mg base 1 "_law_whole" ["_law_found"] YA) (RR:Fn P w K mg base 1 "_law_row" ["_law_wood_here", "_law_kind", "_law_name"] (Ub K)) (RF:Fn P w K mg base 2 "_law_fits" ["_law_wood_here", "_law_kind", "_law_label_here"] (Yn K)) (RT:Fn P w K mg base 3 "_law_root" ["_law_chain", "_law_tree"] (Wa K)) (RL:Fn P w K mg base 2 "_law_label" ["_law_i", "_law_node"] (WR K)) (RB:Fn P w K mg base 3 "_law_branch" ["_law_chain", "_law_i", "_law_node", "_law_k"] (V8 K)):FnOk P w K mg base CX0 4 f fd waP (YT K):=by
 refine F.ok Wc (8:) (4:)
 ·obtain ⟨tu,lo,pl,v,ks1,ks,k00,t0,ms,q,u,rfl,_⟩:=h
  rfl
 obtain ⟨tu,lo,pl,v,ks1,ks,k00,t0,ms,qq,u,rfl,hT,hWo,hG,hk00,hu,hpl,hw,q⟩:=h
 refine ⟨_,(Qe (QF (Zf (Q0 (Qr Zm rfl G.isi PyProof.Rows.boot_isinstance (Qa (pv 3) (58:))))) (Qh (Qo Zq)) Qu)
  (Qe (Ql (i:=4) Wc.nd rfl (7:) (Qi Qg (Qi Qx (pv 1) Qb (3:)) Qb (3:)))
  (Qe (Ql (i:=5) Wc.nd rfl (7:) (Qs RT hr (Qa ((QM (Qa (pv 0) Qd))) (Qa (pv 2) Qd))))
  (Qe (QL PassesOwn.never rfl (WD (pv 3)) (Qq (i:=6) Wc.nd rfl (7:)) (Qe (Ql (i:=7) Wc.nd rfl (7:) (Qs RL hr (Qa (Qb) (Qa (pv 5) Qd))))
  (Qe (QF (PW.pt (pw_or (Zf (Q0 (Qs RW hr (Qa (pv 6) Qd)))) (pw_or (Zf (Q0 (Qs RF hr (Qa (pv 1) (Qa (pv 4) (Qa (pv 7) Qd)))))) (pw_or (Qp Jn (pv 6) Qb (Qt _)) (pw_or1 (Qp ON (pv 6) (Qi Qg (pv 7) Qb (3:)) (Qt _))))))) (Qh (Qo Zq)) Qu)
  (Qe (Ql (i:=4) Wc.nd rfl (7:) (Qi Qg (Qs RR hr (Qa (pv 1) (Qa (pv 4) (Qa (Qi Qg (pv 7) Qb (3:)) Qd)))) (pv 6) (3:)))
  (Qh (Ql (i:=5) Wc.nd rfl (7:) (Qs RB hr (Qa ((QM (Qa (pv 0) Qd))) (Qa (Qb) (Qa (pv 5) (Qa (pv 6) Qd)))))))))))
  (Qh (Qo (G8 (Qs RF hr (Qa (pv 1) (Qa (pv 4) (Qa (Qs RL hr (Qa (Qb) (Qa (pv 5) Qd))) Qd))))))))))),?_⟩
 have hk00m:=List.mem_of_getElem? hk00
 have hat:atI (52:) 0=some (.ref k00.1):=Qy (j:=0) (by rw [List.getElem?_map,hk00];rfl)
 obtain ⟨nC,tC,rC,hC,hwC,hlC⟩:=hw.cm
 refine ⟨_,rfl,pl,_, "tuple", true,rfl,hpl,rfl,_,rfl,Q3 ?_⟩
 refine ⟨_,rfl,lo,_,0,_,rfl,rfl,hWo.1,hat,k00.1,_,0,_,rfl,rfl,(hWo.2 k00 hk00m).1,rfl,?_⟩
 refine ⟨_,rfl,(35:),fun l1 hl1=>?_⟩
 have g1:=Qf hl1 (.lst [.ref tu])
 refine ⟨_,rfl,l1,tu,v,ks1,t0,ms,nC,tC,u,rC,rfl,SqL.of Qc,hT.same g1,hu.mono fun _ _=>g1.seqT,hC,fun nv H2 g2 hnv=>?_⟩
 refine ⟨_,rfl,pl,rfl,⟨_,(g1.trans g2).seqT hpl⟩,?_⟩
 refine W4 (K:=K) (xs:=qq.map V.int) (fun i σ H'=>∃ (c6 c7:Option V) (kind:Str) (nv:V) (t:Tm) (r:Tree Str),σ=[some (.ref tu),some (.ref lo),some v,some (.ref pl),some (.str kind),some nv,c6,c7]∧Same H H'∧(∃ k ∈ ks,k.2.1=kind)∧NdV K H' nv t r∧Wr (46:) (ruN ks1 ms) (qq.drop i) t r kind∧∃ nm kp ad,lab t=.put nm kp ad)
  ⟨none,none,k00.2.1,nv,tC,rC,rfl,g1.trans g2,⟨k00,hk00m,rfl⟩,hnv,hwC,hlC⟩ ?_ ?_ ?_
 ·rintro i σ H' _ ⟨_,_,_,_,_,_,_,g,_⟩
  exact g.seqT hpl
 ·rintro i x σ H' hx ⟨c6,c7,kind,nv,t,r,rfl,g,hkind,hnv,hw,nm,kp,ad,hl⟩
  have hi:i < qq.length:=by
   have:=(List.getElem?_eq_some_iff.mp hx).1
   rwa [List.length_map] at this
  obtain rfl:x=.int qq[i]:=by
   rw [List.getElem?_map,List.getElem?_eq_getElem hi] at hx
   exact (Option.some.inj hx).symm
  rw [List.drop_eq_getElem_cons hi] at hw
  obtain ⟨c,ss,ti,ki,ec,er,el,hti,hki,hw2⟩:=hw.step hl
  rw [ec]
  obtain ⟨n2,t2,r2,hC2,hwC2,hlC2⟩:=hw2.cm
  have hcl:c < t.bs.length:=(List.getElem?_eq_some_iff.mp hti).1
  refine ⟨_,rfl,nv,t,r,nm,kp,ad,rfl,hnv,hl,fun p z H3 g3 hp=>?_⟩
  have gH3:=g.trans g3
  refine ⟨_,rfl,_,rfl,_,rfl,Q3 ⟨_,rfl,_,rfl,_,rfl,lo,p,kind,nm,z,_,ks,rfl,hWo.same gH3,hG.ok,hkind,hp,fun b H4 g4 hb=>⟨_,rfl,?_⟩⟩⟩
  obtain rfl:b=true:=hb.mpr ⟨ss,er,by lia⟩
  have gH4:=gH3.trans g4
  refine Q3 ⟨_,rfl,_,_,rfl,rfl,_,rfl,ZP (show ¬ ((c:Int) < 0) by lia) ⟨_,rfl,_,rfl,p,_,2,_,rfl,rfl,g4.seqT hp,rfl,_,_,rfl,rfl,_,rfl,ZP (show ¬ (((t.bs.length:Nat):Int)≤(c:Int)) by lia) ?_⟩⟩
  refine ⟨_,rfl,_,rfl,_,rfl,p,_,0,_,rfl,rfl,g4.seqT hp,rfl,lo,kind,nm,ks,rfl,hWo.same gH4,hG.ok,hkind,fun rv H5 g5 hrv=>?_⟩
  rw [er] at hrv
  obtain ⟨br,rfl,hbr⟩:=hrv
  refine ⟨_,rfl,br,_,_,_,rfl,rfl,hbr,Qy (by rw [List.getElem?_map,hki];rfl),?_⟩
  have gH5:=gH4.trans g5
  refine ⟨_,rfl,(35:),fun l2 hl2=>?_⟩
  have g6:=Qf hl2 (.lst [.ref tu])
  have gH6:=gH5.trans g6
  refine ⟨_,rfl,_,rfl,l2,tu,nv,c,ks1,t0,ms,n2,t,ti,t2,r,r2,rfl,SqL.of Qc,hT.same gH6,hnv.same (g3.trans (g4.trans (g5.trans g6))),hti,hC2,fun nv2 H7 g7 hnv2=>?_⟩
  exact ⟨_,_,ki,nv2,t2,r2,rfl,gH6.trans g7,Yc hG er (List.mem_of_getElem? hki),hnv2,hwC2,hlC2⟩
 ·rintro σ H' ⟨c6,c7,kind,nv,t,r,rfl,g,hkind,hnv,hw,nm,kp,ad,hl⟩
  rw [List.length_map,List.drop_length] at hw
  have hno:=hw.fin hl
  refine ⟨_,rfl,_,rfl,_,rfl,nv,t,r,nm,kp,ad,rfl,hnv,hl,fun p z H3 g3 hp=>?_⟩
  refine ⟨lo,p,kind,nm,z,_,ks,rfl,hWo.same (g.trans g3),hG.ok,hkind,hp,fun b H4 g4 hb=>?_⟩
  have eb:b=false:=by
   cases b with
   | false=>rfl
   | true =>
    obtain ⟨ss,e1,e2⟩:=hb.mp rfl
    exact absurd ⟨ss,e1,by lia⟩ hno
  subst eb
  exact ⟨_,rfl,q H4 ((g.trans g3).trans g4)⟩
theorem YG:FnScope ["_law_turning_here", "_law_out", "_law_known", "_law_pair", "_law_row_here", "_law_asks_here"] ["_law_turning_here", "_law_out"] (defScope Wq):=(1:)
theorem Gb {n:Nat} (F:Fun K "_law_right" "_law_right" Wq f fd) (G:Gm mg) (RA:Fn P w K mg base (n + 2) "_law_asks" ["_law_wood_here", "_law_term", "_law_kind"] (Z7 K n)) (RP:Fn P w K mg base (n + 3) "_law_pairs" ["_law_turning_here", "_law_out"] (JY K n)):FnOk P w K mg base CX0 (n + 4) f fd ["_law_turning_here", "_law_out"] (Xe K n):=by
 refine F.ok YG (8:) (4:)
 ·obtain ⟨nm,tu,wd,lm,lo,sv,ks1,ks,k00,t0,ms,k1,s,rfl,_⟩:=h
  rfl
 obtain ⟨nm,tu,wd,lm,lo,sv,ks1,ks,k00,t0,ms,k1,sF,rfl,hTu,hO,hWo,hWG,hk00,hnk,hn3,hso,hl0,hlm,hCl,q⟩:=h
 refine ⟨_,(Qe (QF (Qp (Lw (Ze hr)) Q5 (Qs RA hr (Qa (pv 1) (Qa (45:) (Qa (Qi Qg (Qi Qx (pv 1) Qb (3:)) Qb (3:)) Qd))) (11:)) rfl) (Qh (Qo Zq)) Qu)
  (Qe (Ql (i:=2) YG.nd rfl (7:) (Qs RP hr (Qa (pv 0) (Qa (pv 1) Qd)) (9:)))
  (Qe (QL PassesOwn.never rfl (Ol (pv 2)) (Qq (i:=3) YG.nd rfl (7:)) (Qh
   (QL PassesOwn.never rfl (QO (Zg (Ze hr) (pv 2) (pv 3) (3:))) (Zb rfl (Qw (Qq (i:=4) YG.nd rfl (7:)) (Qw (Qq (i:=5) YG.nd rfl (7:)) QX))) (Qh
    (QF (Qp (Lw (Ze hr)) Q5 (pv 5) rfl) (Qh (Qo Zq)) Qu)))))
  (Qh (Qo Zq))))),?_⟩
 have hk00m:=List.mem_of_getElem? hk00
 have hat:atI (52:) 0=some (.ref k00.1):=Qy (j:=0) (by rw [List.getElem?_map,hk00];rfl)
 refine ⟨_,rfl,_,rfl,tu,_,1,_,rfl,rfl,hTu.tu,rfl,_,rfl,lo,_,0,_,rfl,rfl,hWo.1,hat,k00.1,_,0,_,rfl,rfl,(hWo.2 k00 hk00m).1,rfl,nm,lo,sv,k00.2.1,ks,t0,rfl,hWo,hWG,hTu.st,hO.st,hn3,⟨k00,hk00m,rfl⟩,fun la H1 l g1 hla0 hla hA _=>?_⟩
 refine ⟨la,_,rfl,rfl,SqL.of hla,hA.non.1,fun b hb=>⟨_,rfl,?_⟩⟩
 have hb':=hb.trans hA.non.2
 cases b with
 | true =>
  refine Q8 (q false H1 g1 ⟨fun z=>(nomatch z),fun z=>?_⟩)
  obtain ⟨g,e,_⟩:=hCl.f0 (hb'.mp rfl)
  rw [z] at e;cases e
 | false =>
 have hno:none ∉ QG (46:) n t0 k00.2.1:=fun z=>(nomatch hb'.mpr z)
 refine Q3 ?_
 refine ⟨_,rfl,_,rfl,nm,tu,wd,lm,lo,sv,ks1,ks,k00,t0,ms,rfl,hTu.same g1,hO,hWo.same g1,hWG,hk00,hnk,hn3,hso,hl0,hlm,fun kn H2 es g2 hkn1 hkn hen hdk hK=>?_⟩
 have hiff:=hCl.right hK hno
 have g12:=g1.trans g2
 refine ⟨_,rfl,kn,_,rfl,.inl hkn,fun o Hf hf hne=>?_⟩
 have kf:∀ a u,a≠kn→H2 a=some u→Hf a=some u:=fun a u n h=>by rw [hne a n];exact h
 have nk:∀ {a:Addr} {xs:List V},H2 a=some (.lst xs)→a≠kn:=fun h z=>by rw [z,hkn] at h;cases h
 have nkt:∀ {a:Addr} {xs:List V},H2 a=some (.tup xs)→a≠kn:=fun h z=>by rw [z,hkn] at h;cases h
 have kpf:Kp K H2 Hf:=⟨fun a xs h=>kf a _ (nkt h) h,fun a xs h=>by
  rcases h with (h | ⟨o,h⟩) | h
  ·exact .inl (.inl (kf a _ (nkt h) h))
  ·exact .inl (.inr ⟨o,kf a _ (fun z=>by rw [z,hkn] at h;cases h) h⟩)
  ·exact .inr h⟩
 have gHf:Same H Hf:=fun b u e=>kf b u (fun z=>by
  have:=g1 _ _ e
  rw [z,hkn1] at this;cases this) (g12 _ _ e)
 have hen':∀ e ∈ es,EnAt K Hf (fun _=>False) e:=fun e he=>(hen e he).keep kpf fun a xs _ h=>kf a _ (nk h) h
 refine No (fun j σ H'=>∃ (c3 c4 c5:Option V),σ=[some (.ref tu),some (.ref lo),some (.ref kn),c3,c4,c5]∧H'=Hf∧∀ e ∈ es.take j,∀ x ∈ e.2.2,none ∉ (shX x).2)
  ⟨none,none,none,rfl,rfl,fun e he=>by simp at he⟩ ?_ ?_ ?_
 ·rintro j σ H' _ ⟨_,_,_,_,rfl,_⟩
  exact hf
 ·rintro j b x σ H3 hx hb3 ⟨c3,c4,c5,rfl,rfl,hall⟩
  have hj:j < es.length:=by
   have:=(List.getElem?_eq_some_iff.mp hx).1
   unfold knK at this
   rwa [List.length_map] at this
  obtain rfl:x=(kD es[j].1,V.ref es[j].2.1):=by
   unfold knK at hx
   rw [List.getElem?_map,List.getElem?_eq_getElem hj] at hx
   exact (Option.some.inj hx).symm
  have hem:=List.getElem_mem hj
  have efind:es.find? (fun e=>decide (e.1=es[j].1))=some es[j]:=by
   cases e:es.find? fun e=>decide (e.1=es[j].1) with
   | none =>
    have:=List.find?_eq_none.mp e es[j] hem
    simp at this
   | some y =>
    have h1:y.1=es[j].1:=by simpa using List.find?_some e
    obtain ⟨k,hk,ek⟩:=List.getElem_of_mem (List.mem_of_find?_eq_some e)
    have:k=j:=by
     have g:(es.map (·.1))[k]?=(es.map (·.1))[j]?:=by
      rw [List.getElem?_map,List.getElem?_map,List.getElem?_eq_getElem hk,List.getElem?_eq_getElem hj,ek]
      show some y.1=some es[j].1
      rw [h1]
     exact (List.getElem?_inj (by rw [List.length_map];exact hk) hK.nd).mp g
    subst this
    rw [← ek]
  have hget:DGet H3 kn (.ref b) (some (.ref es[j].2.1)):=by
   have h:DGet H3 kn (.ref b) (ZJ (knK es) (kD es[j].1)):=.inr ⟨_,kD es[j].1,b,.inr ⟨o,hf⟩,rfl,hb3,rfl⟩
   rw [U5,efind] at h
   exact h
  have he4:=hen' _ hem
  have htk:es.take (j + 1)=es.take j ++ [es[j]]:=by rw [List.take_add_one,List.getElem?_eq_getElem hj];rfl
  generalize es[j]=e at he4 hem hget htk
  refine ⟨_,rfl,_,rfl,kn,_,rfl,hget,e.2.1,rfl,⟨_,SqL.of he4.1⟩,?_⟩
  refine Yf (K:=K) (xs:=e.2.2.map fun x=>V.ref x.1) (fun m σ H'=>∃ (c4 c5:Option V),σ=[some (.ref tu),some (.ref lo),some (.ref kn),some (.ref b),c4,c5]∧H'=H3∧∀ x ∈ e.2.2.take m,none ∉ (shX x).2)
   ⟨_,_,rfl,rfl,fun x hx=>by simp at hx⟩ ?_ ?_ ?_
  ·rintro m σ H' _ ⟨_,_,_,rfl,_⟩
   exact SqL.of he4.1
  ·rintro m v σ H5 hv ⟨c4,c5,rfl,rfl,hm5⟩
   have hm:m < e.2.2.length:=by
    have:=(List.getElem?_eq_some_iff.mp hv).1
    rwa [List.length_map] at this
   obtain rfl:v=.ref e.2.2[m].1:=by
    rw [List.getElem?_map,List.getElem?_eq_getElem hm] at hv
    exact (Option.some.inj hv).symm
   have hxm:=List.getElem_mem hm
   obtain ⟨x1,x2,x3,x4,x5⟩:=he4.2.2 _ hxm
   refine ⟨_,_,rfl,x1,rfl,_,_,rfl,_,_,rfl,rfl,?_⟩
   refine ⟨_,rfl,_,_,rfl,rfl,SqL.of x3,x5.non.1,fun b2 hb2=>⟨_,rfl,?_⟩⟩
   have hb2':=hb2.trans x5.non.2
   cases b2 with
   | true =>
    refine Q8 (q false H5 gHf ⟨fun z=>(nomatch z),fun z=>?_⟩)
    exact absurd (hb2'.mp rfl) (hiff.mp z e hem _ hxm)
   | false =>
    refine Q3 ⟨_,_,rfl,rfl,fun x hx=>?_⟩
    rw [List.take_add_one,List.getElem?_eq_getElem hm] at hx
    rcases List.mem_append.mp hx with z | z
    ·exact hm5 x z
    ·obtain rfl:x=e.2.2[m]:=by simpa using z
     exact fun y=>(nomatch hb2'.mpr y)
  ·rintro σ H5 ⟨c4,c5,rfl,rfl,hm5⟩
   rw [List.length_map,List.take_length] at hm5
   refine ⟨_,_,_,rfl,rfl,fun y hy=>?_⟩
   rw [htk] at hy
   rcases List.mem_append.mp hy with z | z
   ·exact hall y z
   ·obtain rfl:y=e:=by simpa using z
    exact hm5
 ·rintro σ H' ⟨c3,c4,c5,rfl,rfl,hall⟩
  refine q true H' gHf ⟨fun _=>hiff.mpr ?_,fun _=>rfl⟩
  unfold knK at hall
  rw [List.length_map,List.take_length] at hall
  exact hall
theorem G9:FnScope ["_law_turning_here", "_law_wood_here"] ["_law_turning_here"] (defScope Lq):=(1:)
theorem LQ (F:Fun K "_law_copy" "_law_copy" Lq f fd) (G:Gm mg):FnOk P w K mg base CX0 1 f fd ["_law_turning_here"] (WB K):=by
 refine F.ok G9 (8:) (4:)
 ·obtain ⟨tu,wd,lm,sv,ks,t0,ms,rfl,_⟩:=h
  rfl
 obtain ⟨tu,wd,lm,sv,ks,t0,ms,rfl,hT,hO,hm10,q⟩:=h
 refine ⟨_,(Qe (ZY (i:=1) (28:) rfl (QO (45:)) (W8 (28:) rfl) (fun _ _ _ _=>ZB) (53:) G9.nd rfl rfl)
  (Qh (Qo (Qv (Qa (pv 1) (Qa (45:) (Qa (Q6 (CompG.many (xs:=["_law_kind", "_law_rules"]) (caps:=[]) (cap:=[]) (cs:=[]) rfl rfl (0:) (0:) (0:) (0:) (0:) (0:) rfl rfl rfl) rfl (QO (45:)) (W8 (CompG.many (xs:=["_law_kind", "_law_rules"]) (caps:=[]) (cap:=[]) (cs:=[]) rfl rfl (0:) (0:) (0:) (0:) (0:) (0:) rfl rfl rfl) rfl) (fun _ _ _ _=>ZB) (53:)) Qd))))))),?_⟩
 refine ⟨_,rfl,tu,_,0,_,rfl,rfl,hT.tu,rfl,wd,rfl,⟨_,hT.wd.1⟩,fun lx hlx=>?_⟩
 refine Ui (K:=K) (xs:=ks.map fun k=>V.ref k.1) (cs:=[]) (tt:=fun _ H Q=>Q true H) (te:=Vy (Zd (ZI 0) (Zd (tCB (Yo K) (Zd (ZI 1) Yu)) Yu))) (fun j ys H'=>∃ hs:List KdT,ys=hs.map (fun k=>V.ref k.1)∧hs.map QH=(ks.take j).map QH∧(∀ k ∈ hs,SqT K H' k.1 [.str k.2.1,.ref k.2.2.1]∧(H' k.2.2.1=some (.lst (k.2.2.2.map fun t=>V.ref t.1))∧k.2.2.1≠lx)∧∀ t ∈ k.2.2.2,RowAt K H' t)∧H' lx=some (.lst ys)∧Same H H')
  ⟨[],rfl,rfl,fun k hk=>(nomatch hk),Qc,Qf hlx _⟩ ?_ ?_ ?_
 ·rintro j ys H' _ ⟨hs,_,_,_,_,g⟩
  exact (hT.wd.same g).1
 ·rintro j x ys H' hj hx ⟨hs,rfl,hkey,hat,hya,g⟩
  have hjk:j < ks.length:=by simpa using hj
  obtain rfl:x=.ref ks[j].1:=by
   rw [List.getElem?_map,List.getElem?_eq_getElem hjk] at hx
   exact (Option.some.inj hx).symm
  obtain ⟨hk1,hkr⟩:=(hT.wd.same g).2 _ (List.getElem_mem hjk)
  have hhl:hs.length=j:=by
   have:=congrArg List.length hkey
   rw [List.length_map,List.length_map,List.length_take] at this
   lia
  have hkl:=hO.len
  refine ⟨ks[j].1,_,_,rfl,hk1,Q8 ⟨_,rfl,_,rfl,ks[j].2.2.1,_,rfl,.inl hkr.1,fun l2 hl2=>⟨(23:),fun p2 hp2=>?_⟩⟩⟩
  have e1:=Qf hl2 (.lst (ks[j].2.2.2.map fun t=>V.ref t.1))
  have e2:=Qf hp2 (.tup [.str ks[j].2.1,.ref l2])
  have e12:=e1.trans e2
  have hya2:=e12 _ _ hya
  have hl2x:l2≠lx:=fun z=>by rw [z,hya] at hl2;cases hl2
  refine QI (ys:=hs.map fun k=>V.ref k.1) hj hya2 (15:) ⟨hs ++ [(p2,ks[j].2.1,l2,ks[j].2.2.2)],by simp,?_,fun k hk=>?_,Qc,fun x u e=>by rw [Qj (Qk e hlx)];exact e12 _ _ (g _ _ e)⟩
  ·rw [List.map_append,hkey,List.take_add_one,List.getElem?_eq_getElem hjk,List.map_append]
   rfl
  ·rcases List.mem_append.mp hk with z | z
   ·obtain ⟨a1,⟨a2,a3⟩,a4⟩:=hat k z
    exact ⟨(e12.seqT a1).put hya2,⟨by rw [Qj a3];exact e12 _ _ a2,a3⟩,fun t ht=>⟨(e12.seqT (a4 t ht).1).put hya2,(e12.seqT (a4 t ht).2).put hya2⟩⟩
   ·have:k=(p2,ks[j].2.1,l2,ks[j].2.2.2):=by simpa using z
    rw [this]
    refine ⟨SqT.put (SqT.of Qc) hya2,⟨by rw [Qj hl2x];exact e2 _ _ Qc,hl2x⟩,fun t ht=>⟨(e12.seqT (hkr.2 t ht).1).put hya2,(e12.seqT (hkr.2 t ht).2).put hya2⟩⟩
 rintro ys H1 ⟨hs,rfl,hkey,hat,hya,g1⟩
 rw [List.length_map,List.take_length] at hkey
 have hWH:WoodAt K H1 lx hs:=⟨SqL.of hya,fun k hk=>by
  obtain ⟨a1,⟨a2,_⟩,a4⟩:=hat k hk
  exact ⟨a1,SqL.of a2,a4⟩⟩
 have hT1:=hT.same g1
 refine ⟨_,rfl,_,rfl,tu,_,1,_,rfl,rfl,hT1.tu,rfl,_,rfl,tu,_,2,_,rfl,rfl,hT1.tu,rfl,lm,rfl,⟨_,hT1.lm⟩,fun ly hly=>?_⟩
 refine Ui (K:=K) (xs:=ms.map fun k=>V.ref k.1) (cs:=[]) (tt:=fun _ H Q=>Q true H) (te:=Vy (Zd (ZI 0) (Zd (tCB (Yo K) (Zd (ZI 1) Yu)) Yu))) (fun j ys H'=>∃ ns:List MoT,ys=ns.map (fun k=>V.ref k.1)∧ns.map mdK=(ms.take j).map mdK∧(∀ m ∈ ns,SqT K H' m.1 [.str m.2.1,.ref m.2.2.1]∧(H' m.2.2.1=some (.lst m.2.2.2.1)∧m.2.2.1≠ly)∧TmAll K H' m.2.2.2.1 m.2.2.2.2)∧H' ly=some (.lst ys)∧Same H1 H')
  ⟨[],rfl,rfl,fun k hk=>(nomatch hk),Qc,Qf hly _⟩ ?_ ?_ ?_
 ·rintro j ys H' _ ⟨hs,_,_,_,_,g⟩
  exact (hT1.same g).lm
 ·rintro j x ys H' hj hx ⟨ns,rfl,hkm,hat,hyb,g⟩
  have hjk:j < ms.length:=by simpa using hj
  obtain rfl:x=.ref ms[j].1:=by
   rw [List.getElem?_map,List.getElem?_eq_getElem hjk] at hx
   exact (Option.some.inj hx).symm
  obtain ⟨hk1,hk2,hk3⟩:=(hT1.same g).mo _ (List.getElem_mem hjk)
  have hhl:ns.length=j:=by
   have:=congrArg List.length hkm
   rw [List.length_map,List.length_map,List.length_take] at this
   lia
  refine ⟨ms[j].1,_,_,rfl,hk1,Q8 ⟨_,rfl,_,rfl,ms[j].2.2.1,_,rfl,.inl hk2,fun l2 hl2=>⟨(23:),fun p2 hp2=>?_⟩⟩⟩
  have e1:=Qf hl2 (.lst ms[j].2.2.2.1)
  have e2:=Qf hp2 (.tup [.str ms[j].2.1,.ref l2])
  have e12:=e1.trans e2
  have hyb2:=e12 _ _ hyb
  have hl2x:l2≠ly:=fun z=>by rw [z,hyb] at hl2;cases hl2
  refine QI (ys:=ns.map fun k=>V.ref k.1) hj hyb2 (15:) ⟨ns ++ [(p2,ms[j].2.1,l2,ms[j].2.2.2.1,ms[j].2.2.2.2)],by simp,?_,fun k hk=>?_,Qc,fun x u e=>by rw [Qj (Qk e hly)];exact e12 _ _ (g _ _ e)⟩
  ·rw [List.map_append,hkm,List.take_add_one,List.getElem?_eq_getElem hjk,List.map_append]
   rfl
  ·rcases List.mem_append.mp hk with z | z
   ·obtain ⟨a1,⟨a2,a3⟩,a4⟩:=hat k z
    exact ⟨(e12.seqT a1).put hyb2,⟨by rw [Qj a3];exact e12 _ _ a2,a3⟩,a4.mono fun _ _ h=>(e12.seqT h).put hyb2⟩
   ·have:k=(p2,ms[j].2.1,l2,ms[j].2.2.2.1,ms[j].2.2.2.2):=by simpa using z
    rw [this]
    exact ⟨SqT.put (SqT.of Qc) hyb2,⟨by rw [Qj hl2x];exact e2 _ _ Qc,hl2x⟩,hk3.mono fun _ _ h=>(e12.seqT h).put hyb2⟩
 rintro ys H2 ⟨ns,rfl,hkm,hat2,hyb,g2⟩
 rw [List.length_map,List.take_length] at hkm
 refine ⟨(20:),fun p hp=>?_⟩
 have k3:=Qf hp (.tup [.ref lx,sv,.ref ly])
 have g23:=g2.trans k3
 exact q p lx ly hs ns _ (g1.trans g23) ⟨SqT.of Qc,hWH.same g23,hT1.st.mono fun _ _=>g23.seqT,SqL.of (k3 _ _ hyb),fun m hm=>by
  obtain ⟨a1,⟨a2,_⟩,a4⟩:=hat2 m hm
  exact ⟨k3.seqT a1,SqL.of (k3 _ _ a2),a4.mono fun _ _=>k3.seqT⟩⟩ hkey hkm
end
end K61
namespace K61
open PySem L2 TM TT K9 K11
theorem WF.of {hs ks:List KdT} (h:WF ks) (e:hs.map QH=ks.map QH):WF hs:=by
 have e1:(hs.map fun k=>k.2.1)=ks.map fun k=>k.2.1:=by
  have:=congrArg (List.map Prod.fst) e
  rw [List.map_map,List.map_map] at this
  exact this
 have el:hs.length=ks.length:=by
  have:=congrArg List.length e
  rwa [List.length_map,List.length_map] at this
 have mem:∀ k ∈ hs,∃ k' ∈ ks,k'.2.1=k.2.1∧k'.2.2.2=k.2.2.2:=fun k hk=>by
  have hm:QH k ∈ ks.map QH:=by rw [← e];exact List.mem_map.mpr ⟨k,hk,rfl⟩
  obtain ⟨k',hk',e'⟩:=List.mem_map.mp hm
  exact ⟨k',hk',congrArg (fun p:Str × List PNx=>p.1) e',congrArg (fun p:Str × List PNx=>p.2) e'⟩
 refine ⟨WoodOk.of h.ok e,by rw [el];exact h.ne,by rw [el];exact h.l3,fun k hk=>?_,fun k hk=>?_⟩
 ·obtain ⟨k',hk',e2,_⟩:=mem k hk
  rw [← e2];exact h.nm k' hk'
 ·obtain ⟨k',hk',_,e3⟩:=mem k hk
  rw [← e3,e1];exact h.kf k' hk'
theorem Xv {hs ks:List KdT} (e:hs.map QH=ks.map QH) {k0:KdT} (h:ks[0]?=some k0):∃ k',hs[0]?=some k'∧k'.2.1=k0.2.1:=by
 have h1:(hs.map QH)[0]?=some (QH k0):=by rw [e,List.getElem?_map,h];rfl
 rw [List.getElem?_map] at h1
 cases hh:hs[0]? with
 | none=>rw [hh] at h1;cases h1
 | some k' =>
  rw [hh] at h1
  have h2:QH k'=QH k0:=Option.some.inj h1
  exact ⟨k',rfl,congrArg (fun p:Str × List PNx=>p.1) h2⟩
theorem Op {K:PySem.W.Frag} {H:Hp} {wd lx:Addr} {ks:List KdT} {R:Hp→Prop} (hW:WoodAt K H wd ks) (hO:WoodOk ks) (hlx:H lx=none) (q:∀ hs H',Same H H'→hs.map QH=ks.map QH→WoodAt K H' lx hs→R H') :
 Jc (Itl K wd) 2 [] (L4 K 2 (UL (Zt 0) (UL (Zt 1) L7))) (fun _ H Q=>Q true H) (Vy (Zd (ZI 0) (Zd (tCB (Yo K) (Zd (ZI 1) Yu)) Yu))) H lx R:=by
 refine Ui (K:=K) (xs:=ks.map fun k=>V.ref k.1) (cs:=[]) (tt:=fun _ H Q=>Q true H) (te:=Vy (Zd (ZI 0) (Zd (tCB (Yo K) (Zd (ZI 1) Yu)) Yu))) (fun j ys H'=>∃ hs:List KdT,ys=hs.map (fun k=>V.ref k.1)∧hs.map QH=(ks.take j).map QH∧(∀ k ∈ hs,SqT K H' k.1 [.str k.2.1,.ref k.2.2.1]∧(H' k.2.2.1=some (.lst (k.2.2.2.map fun t=>V.ref t.1))∧k.2.2.1≠lx)∧∀ t ∈ k.2.2.2,RowAt K H' t)∧H' lx=some (.lst ys)∧Same H H')
  ⟨[],rfl,rfl,fun k hk=>(nomatch hk),Qc,Qf hlx _⟩ ?_ ?_ ?_
 ·rintro j ys H' _ ⟨hs,_,_,_,_,g⟩
  exact (hW.same g).1
 ·rintro j x ys H' hj hx ⟨hs,rfl,hkey,hat,hya,g⟩
  have hjk:j < ks.length:=by simpa using hj
  obtain rfl:x=.ref ks[j].1:=by
   rw [List.getElem?_map,List.getElem?_eq_getElem hjk] at hx
   exact (Option.some.inj hx).symm
  obtain ⟨hk1,hkr⟩:=(hW.same g).2 _ (List.getElem_mem hjk)
  have hhl:hs.length=j:=by
   have:=congrArg List.length hkey
   rw [List.length_map,List.length_map,List.length_take] at this
   lia
  have hkl:=hO.len
  refine ⟨ks[j].1,_,_,rfl,hk1,Q8 ⟨_,rfl,_,rfl,ks[j].2.2.1,_,rfl,.inl hkr.1,fun l2 hl2=>⟨(23:),fun p2 hp2=>?_⟩⟩⟩
  have e1:=Qf hl2 (.lst (ks[j].2.2.2.map fun t=>V.ref t.1))
  have e2:=Qf hp2 (.tup [.str ks[j].2.1,.ref l2])
  have e12:=e1.trans e2
  have hya2:=e12 _ _ hya
  have hl2x:l2≠lx:=fun z=>by rw [z,hya] at hl2;cases hl2
  refine QI (ys:=hs.map fun k=>V.ref k.1) hj hya2 (15:) ⟨hs ++ [(p2,ks[j].2.1,l2,ks[j].2.2.2)],by simp,?_,fun k hk=>?_,Qc,fun x u e=>by rw [Qj (Qk e hlx)];exact e12 _ _ (g _ _ e)⟩
  ·rw [List.map_append,hkey,List.take_add_one,List.getElem?_eq_getElem hjk,List.map_append]
   rfl
  ·rcases List.mem_append.mp hk with z | z
   ·obtain ⟨a1,⟨a2,a3⟩,a4⟩:=hat k z
    exact ⟨(e12.seqT a1).put hya2,⟨by rw [Qj a3];exact e12 _ _ a2,a3⟩,fun t ht=>⟨(e12.seqT (a4 t ht).1).put hya2,(e12.seqT (a4 t ht).2).put hya2⟩⟩
   ·have:k=(p2,ks[j].2.1,l2,ks[j].2.2.2):=by simpa using z
    rw [this]
    refine ⟨SqT.put (SqT.of Qc) hya2,⟨by rw [Qj hl2x];exact e2 _ _ Qc,hl2x⟩,fun t ht=>⟨(e12.seqT (hkr.2 t ht).1).put hya2,(e12.seqT (hkr.2 t ht).2).put hya2⟩⟩
 rintro ys H1 ⟨hs,rfl,hkey,hat,hya,g1⟩
 rw [List.length_map,List.take_length] at hkey
 exact q hs H1 g1 hkey ⟨SqL.of hya,fun k hk=>by
  obtain ⟨a1,⟨a2,_⟩,a4⟩:=hat k hk
  exact ⟨a1,SqL.of a2,a4⟩⟩
def Wl (ks:List KdT):PyData:=.list ((ks.map QH).map ZO)
theorem V4 {ks:List KdT} (hW:WF ks):(Wl ks).canLay0=true∧(Wl ks).depth≤6:=by
 have a1:=Jr hW.nm fun k hk=>(hW.kf k hk).ok
 have a2:=Y8 (ks.map QH)
 unfold Wl
 constructor
 ·simp only [PyData.canLay0,a1]
 ·simp only [PyData.depth]
  lia
theorem WF.leaf {ks:List KdT} (h:WF ks) {s:Str} (hs:∃ k ∈ ks,k.2.1=s):HasLeaf ks s:=by
 obtain ⟨kd,hkf,erow,hkm⟩:=QV hs
 obtain ⟨r,hr,e⟩:=(h.kf kd hkm).bare
 exact ⟨r,by rw [erow];exact hr,e⟩
theorem WF.wg {ks:List KdT} (h:WF ks):WG ks:=⟨h.ok,fun k hk r hr s hs=>by
 obtain ⟨k',hk',e⟩:=List.mem_map.mp ((h.kf k hk).cl r hr s hs)
 exact ⟨k',hk',e⟩⟩
section
variable {ks1 ks:List KdT} {k01 k00:KdT} {t0:Tm} {ms:List MoT} {ow:List (Str × Str)}
theorem Drawn.len (D:Drawn ks1 ks k01 k00 t0 ms ow):ms.length=ow.length:=by
 have:=congrArg List.length D.nm
 rwa [List.length_map,List.length_map] at this
theorem Drawn.own (D:Drawn ks1 ks k01 k00 t0 ms ow) {bs:List Str} {m b:Int} (h:OwC bs ow m b):0≤m∧m < (ms.length:Int):=by
 obtain ⟨i,j,o,rfl,_,h1,_⟩:=h
 have:=(List.getElem?_eq_some_iff.mp h1).1
 have:=D.len
 lia
theorem Drawn.rule (D:Drawn ks1 ks k01 k00 t0 ms ow) {m:MoT} (hm:m ∈ ms) {t:Tm} (ht:t ∈ m.2.2.2.2):∃ bs,TmD (OwC bs ow) 2 t:=by
 obtain ⟨h1,h2⟩:=D.ru m hm
 obtain ⟨i,hi,rfl⟩:=List.getElem_of_mem ht
 have hz:i < ((rowsK ks1 m.2.1).zip m.2.2.2.2).length:=by rw [List.length_zip];lia
 have:=h2 _ (List.getElem_mem hz)
 rw [List.getElem_zip] at this
 exact ⟨_,this⟩
theorem Drawn.kind (D:Drawn ks1 ks k01 k00 t0 ms ow) {m:MoT} (hm:m ∈ ms):∃ k ∈ ks1,k.2.1=m.2.1:=by
 have:m.2.1 ∈ ow.map (·.1):=by rw [← D.nm];exact List.mem_map_of_mem hm
 obtain ⟨o,ho,e⟩:=List.mem_map.mp this
 rw [← e];exact D.k1 o ho
theorem Drawn.tuOk (D:Drawn ks1 ks k01 k00 t0 ms ow) (h:WF ks1):TuOk ks1 ms.length 2 t0 ms :=
 ⟨h.ok,rfl,D.st.tmB fun m b=>D.own,fun m hm=>D.kind hm,fun m hm=>(D.ru m hm).1.symm,fun m hm t ht=>by
  obtain ⟨bs,hb⟩:=D.rule hm ht
  exact hb.tmB fun m b=>D.own⟩
theorem Drawn.rows (D:Drawn ks1 ks k01 k00 t0 ms ow) (h:WF ks1) {d:Dd} {q:Rw × Tm} (hq:q ∈ QB ks1 ms d):UD ks1 q.1∧(∀ s ∈ q.1.2,PyData.strOk s=true)∧TmD (OwC q.1.2 ow) 2 q.2:=by
 unfold QB at hq
 cases e:ms[d.1.toNat]? with
 | none=>rw [e] at hq;cases hq
 | some m =>
  rw [e] at hq
  have hm:=List.mem_of_getElem? e
  obtain ⟨z,hz,rfl⟩:=List.mem_map.mp (show q ∈ List.map _ _ from hq)
  obtain ⟨kd,hkf,erow,hkm⟩:=QV (D.kind hm)
  have hr:z.1 ∈ kd.2.2.2:=by rw [← erow];exact (List.of_mem_zip hz).1
  have hk:=(h.kf kd hkm).ok.kl _ hr
  refine ⟨⟨by show z.1.2.2.2.length≤10;lia,fun s hs=>h.leaf (h.wg.cl kd hkm _ hr s hs)⟩,fun s hs=>(h.kf kd hkm).ok.kn _ hr s hs,(D.ru m hm).2 z hz⟩
end
theorem Nt {ms ms':List MoT} (e:ms'.map mdK=ms.map mdK) {m':MoT} (h:m' ∈ ms'):∃ m ∈ ms,m.2.1=m'.2.1∧m.2.2.2.2=m'.2.2.2.2:=by
 have hm:mdK m' ∈ ms.map mdK:=by rw [← e];exact List.mem_map_of_mem h
 obtain ⟨m,hm,em⟩:=List.mem_map.mp hm
 exact ⟨m,hm,congrArg (fun p:Str × List V × List Tm=>p.1) em,congrArg (fun p:Str × List V × List Tm=>p.2.2) em⟩
theorem GL {hs ks:List KdT} (e:hs.map QH=ks.map QH) {s:Str} (h:∃ k ∈ ks,k.2.1=s):∃ k ∈ hs,k.2.1=s:=by
 obtain ⟨k,hk,rfl⟩:=h
 have hm:QH k ∈ hs.map QH:=by rw [e];exact List.mem_map_of_mem hk
 obtain ⟨k',hk',e'⟩:=List.mem_map.mp hm
 exact ⟨k',hk',congrArg (fun p:Str × List PNx=>p.1) e'⟩
theorem YU {hs ks:List KdT} {ms ms':List MoT} (e:hs.map QH=ks.map QH) (em:ms'.map mdK=ms.map mdK):QB hs ms'=QB ks ms:=by
 funext d
 unfold QB
 have g:∀ (xs:List MoT) (zs:List KdT),(xs[d.1.toNat]?).map (fun m=>((rowsK zs m.2.1).zip m.2.2.2.2).map fun q=>((q.1.2.1,q.1.2.2.2),q.2))=((xs.map mdK)[d.1.toNat]?).map (fun p:Str × List V × List Tm=>((rowsK zs p.1).zip p.2.2).map fun q=>((q.1.2.1,q.1.2.2.2),q.2)):=fun xs zs=>by
  rw [List.getElem?_map,Option.map_map];rfl
 rw [g,g,em]
 congr 2
 funext p
 rw [Uw e]
theorem ND {hs ks:List KdT} {ms ms':List MoT} (e:hs.map QH=ks.map QH) (em:ms'.map mdK=ms.map mdK):ruN hs ms'=ruN ks ms:=by
 funext m z
 unfold ruN
 rw [YU e em]
theorem Drawn.of {ks1 ks hs ks':List KdT} {k01 k00 k01' k00':KdT} {t0:Tm} {ms ms':List MoT} {ow:List (Str × Str)} (D:Drawn ks1 ks k01 k00 t0 ms ow) (e1:hs.map QH=ks1.map QH) (e2:ks'.map QH=ks.map QH) (em:ms'.map mdK=ms.map mdK) (h1:k01'.2.1=k01.2.1):Drawn hs ks' k01' k00' t0 ms' ow:=by
 refine ⟨D.l5,?_,fun o ho=>GL e1 (D.k1 o ho),fun o ho=>GL e2 (D.k2 o ho),fun m' hm'=>?_,by rw [h1];exact D.st⟩
 ·rw [← D.nm]
  have:=congrArg (List.map fun p:Str × List V × List Tm=>p.1) em
  rw [List.map_map,List.map_map] at this
  exact this
 ·obtain ⟨m,hm,e3,e4⟩:=Nt em hm'
  rw [← e3,← e4,Uw e1]
  exact D.ru m hm
theorem TmD.mok {Pc:Int→Int→Prop}:∀ {n:Nat} {t:Tm},TmD Pc n t→MOk (2 * n) t
 | 0,_,h=>h.elim
 | n + 1,.node (.call m b) mk bs,_=>(Mv m b mk bs).mono (11:)
 | n + 1,.node (.put nm k a) mk bs,⟨⟨_,h1⟩,_,h3⟩=>(NR (d:=2 * n) (h1 nm k a rfl) fun b hb=>TmD.mok (h3 b hb)).mono (11:)
def JC (p:Str × List V × List Tm):PyData:=.tuple [.str p.1,.list (UO p.2.2)]
def tuD (ws:List (Str × List PNx)) (t:Tm) (ds:List (Str × List V × List Tm)):PyData:=.tuple [.list (ws.map ZO),tmd t,.list (ds.map JC)]
theorem XT {K:PySem.W.Frag} {H:Hp}:∀ {ms:List MoT},(∀ m ∈ ms,Of K H m)→RdAll K H (ms.map fun m=>V.ref m.1) ((ms.map mdK).map JC)
 | [],_=>.nil
 | m :: r,h=>by
  obtain ⟨h1,h2,h3⟩:=h m List.mem_cons_self
  exact .cons (.tup h1 (.cons (.str _) (.cons (.lst h2 h3.rd) .nil))) (XT fun x hx=>h x (List.mem_cons_of_mem _ hx))
theorem MZ {K:PySem.W.Frag} {H:Hp} {tu wd lm:Addr} {sv:V} {ks:List KdT} {t0:Tm} {ms:List MoT} (h:TuAt K H tu wd sv lm ks t0 ms):RdV K H (.ref tu) (tuD (ks.map QH) t0 (ms.map mdK)) :=
 .tup h.tu (.cons (.lst h.wd.1 (YM h.wd.2)) (.cons h.st.rd (.cons (.lst h.lm (XT h.mo)) .nil)))
theorem Jp:∀ {ms:List MoT},(∀ m ∈ ms,PyData.strOk m.2.1=true∧∀ t ∈ m.2.2.2.2,MOk 4 t)→PyData.canLayAll0 ((ms.map mdK).map JC)=true∧PyData.depthAll ((ms.map mdK).map JC)≤6
 | [],_=>by simp [PyData.canLayAll0,PyData.depthAll]
 | m :: r,h=>by
  obtain ⟨h1,h2⟩:=h m List.mem_cons_self
  obtain ⟨a1,a2⟩:=Jp fun x hx=>h x (List.mem_cons_of_mem _ hx)
  obtain ⟨b1,b2⟩:=JL _ h2
  simp only [List.map_cons,PyData.canLayAll0,PyData.depthAll,JC,mdK,PyData.canLay0,PyData.depth,h1,b1,Bool.and_self,Bool.true_and]
  exact ⟨a1,by have a2:PyData.depthAll ((r.map mdK).map JC)≤6:=a2;have b2:PyData.depthAll (UO m.2.2.2.2)≤4:=b2;lia⟩
theorem Drawn.lay {ks1 ks:List KdT} {k01 k00:KdT} {t0:Tm} {ms:List MoT} {ow:List (Str × Str)} (D:Drawn ks1 ks k01 k00 t0 ms ow) (hW:WF ks1):(tuD (ks1.map QH) t0 (ms.map mdK)).canLay0=true∧(tuD (ks1.map QH) t0 (ms.map mdK)).depth≤20:=by
 obtain ⟨a1,a2⟩:=V4 hW
 obtain ⟨b1,b2⟩:=D.st.mok
 obtain ⟨c1,c2⟩:=Jp (ms:=ms) fun m hm=>⟨by obtain ⟨k,hk,e⟩:=D.kind hm;rw [← e];exact hW.nm k hk,fun t ht=>by obtain ⟨bs,hb⟩:=D.rule hm ht;exact hb.mok⟩
 unfold Wl at a1 a2
 unfold tuD
 constructor
 ·simp only [PyData.canLay0,PyData.canLayAll0] at a1 ⊢
  rw [a1,b1,c1];rfl
 ·simp only [PyData.depth,PyData.depthAll] at a2 ⊢
  lia
theorem Mc {ks:List KdT} (h:WoodOk ks) {kind name:Str} {ss:List Str} (e:rowK ks kind name=some ss):PyData.strOk name=true:=by
 unfold rowK at e
 cases er:(rowsK ks kind).find? fun r=>decide (r.2.1=name) with
 | none=>rw [er] at e;cases e
 | some r =>
  have hm:=List.mem_of_find?_eq_some er
  have hn:r.2.1=name:=by simpa using List.find?_some er
  rw [← hn]
  exact (YI h kind).nm r hm
theorem Jt {m:Nat}:∀ {ts:List (Tree Str)},(∀ t ∈ ts,(td t).depth≤m)→PyData.depthAll (tds ts)≤m
 | [],_=>by simp [tds,PyData.depthAll]
 | t :: r,h=>by
  have h1:=h t List.mem_cons_self
  have h2:=Jt (ts:=r) fun u hu=>h u (47:)
  simp only [tds,PyData.depthAll]
  lia
theorem OfK.lay {ks:List KdT} (hO:WoodOk ks):∀ {n:Nat} {k:Str} {t:Tree Str},OfK (46:) n k t→LayT t∧(td t).depth≤2 * n
 | 0,_,_,h=>h.elim
 | n + 1,k,.node nm mk bs,⟨ss,h1,h2,h3⟩=>by
  have hb:∀ b ∈ bs,LayT b∧(td b).depth≤2 * n:=fun b hb=>by
   obtain ⟨j,hj,rfl⟩:=List.getElem_of_mem hb
   have h2:ss.length=bs.length:=h2
   exact (h3 j _ ss[j] (List.getElem?_eq_getElem hj) (List.getElem?_eq_getElem (11:))).lay hO
  refine ⟨LayT.node (Mc hO h1) fun b h=>(hb b h).1,?_⟩
  have:=Jt fun b h=>(hb b h).2
  simp only [td,PyData.depth,PyData.depthAll]
  lia
def ptD (u:Tree Str) (p:List Int):PyData:=.tuple [td u,.tuple (p.map .int)]
theorem Uo {K:PySem.W.Frag} {H:Hp}:∀ p:List Int,RdAll K H (p.map V.int) (p.map .int)
 | []=>.nil
 | i :: r=>.cons (.int i) (Uo r)
theorem YJ:∀ p:List Int,PyData.canLayAll0 (p.map PyData.int)=true∧PyData.depthAll (p.map PyData.int)≤1
 | []=>by simp [PyData.canLayAll0,PyData.depthAll]
 | i :: r=>by
  obtain ⟨h1,h2⟩:=YJ r
  simp only [List.map_cons,PyData.canLayAll0,PyData.depthAll,PyData.canLay0,PyData.depth,h1,Bool.and_self,true_and]
  lia
theorem MN {K:PySem.W.Frag} {H:Hp} {p qa:Addr} {v:V} {u:Tree Str} {pl:List Int} (h1:SqT K H p [v,.ref qa]) (h2:TrV K H v u) (h3:SqT K H qa (pl.map V.int)):RdV K H (.ref p) (ptD u pl):=.tup h1 (.cons (K9.TrV.rd h2) (.cons (.tup h3 (Uo pl)) .nil))
theorem NM {u:Tree Str} {n:Nat} (h:LayT u∧(td u).depth≤2 * n) (pl:List Int):(ptD u pl).canLay0=true∧(ptD u pl).depth≤2 * n + 5:=by
 obtain ⟨h1,h2⟩:=h
 obtain ⟨a1,a2⟩:=YJ pl
 have h1:(td u).canLay0=true:=h1
 unfold ptD
 simp only [PyData.canLay0,PyData.canLayAll0,PyData.depth,PyData.depthAll,h1,a1,Bool.and_self,true_and]
 lia
def kpD (ms:List MoT) (m:Int):Str:=((ms[m.toNat]?).map fun m=>m.2.1).getD (S [])
theorem Ma {rs:List PNx} (h:(rs.map fun t=>t.2.1).Nodup) {ts:List Tm} {q x:PNx × Tm} (hq:q ∈ rs.zip ts) (hx:x ∈ rs.zip ts) (e:x.1.2.1=q.1.2.1):x=q:=by
 obtain ⟨i,hi,rfl⟩:=List.getElem_of_mem hq
 obtain ⟨j,hj,rfl⟩:=List.getElem_of_mem hx
 rw [List.length_zip] at hi hj
 rw [List.getElem_zip,List.getElem_zip] at e
 have:j=i:=by
  refine (List.getElem?_inj (15:) h).mp ?_
  rw [List.getElem?_map,List.getElem?_map,List.getElem?_eq_getElem (11:),List.getElem?_eq_getElem (11:),Option.map_some,Option.map_some]
  exact congrArg some e
 subst this
 rfl
theorem Drawn.wy {ks1 ks:List KdT} {k01 k00:KdT} {t0:Tm} {ms:List MoT} {ow:List (Str × Str)} (D:Drawn ks1 ks k01 k00 t0 ms ow) (hW:WF ks1) (hk01:k01 ∈ ks1):Wy (46:) (rowK ks1) 2 (QB ks1 ms) (ruN ks1 ms) t0 k01.2.1 k00.2.1 (kpD ms) ks1:=by
 have rl:∀ d q,q ∈ QB ks1 ms d→∃ m,ms[d.1.toNat]?=some m∧m ∈ ms∧∃ z ∈ (rowsK ks1 m.2.1).zip m.2.2.2.2,q=((z.1.2.1,z.1.2.2.2),z.2):=fun d q hq=>by
  unfold QB at hq
  cases e:ms[d.1.toNat]? with
  | none=>rw [e] at hq;cases hq
  | some m =>
   rw [e] at hq
   obtain ⟨z,hz,rfl⟩:=List.mem_map.mp (show q ∈ List.map _ _ from hq)
   exact ⟨m,rfl,List.mem_of_getElem? e,z,hz,rfl⟩
 have own:∀ {bs:List Str} {m b:Int},OwC bs ow m b→∃ c:Nat,b=(c:Int)∧bs[c]?=some (kpD ms m):=fun {bs m b} ⟨i,j,o,e1,e2,h1,h2⟩=>by
  refine ⟨i,e2,?_⟩
  rw [h2,e1]
  unfold kpD
  rw [Int.toNat_natCast]
  have:(ms.map fun m=>m.2.1)[j]?=(ow.map (·.1))[j]?:=by rw [D.nm]
  rw [List.getElem?_map,List.getElem?_map,h1] at this
  rw [this];rfl
 refine ⟨fun d hd q hq=>?_,fun d q hq=>?_,fun d q hq s hs n=>?_,fun n=>XI hW.ok (hW.leaf ⟨k01,hk01,rfl⟩) n,fun d q hq i hi m b k e=>?_,fun i hi m b k e=>?_⟩
 ·obtain ⟨m,em,hm,z,hz,rfl⟩:=rl d q hq
  have nd:=(YI hW.ok m.2.1).nd
  unfold ruN
  rw [if_pos hd]
  unfold QB
  rw [show (d.1,((z.1.2.1,z.1.2.2.2),z.2).1.1).1.toNat=d.1.toNat from rfl,em,Option.map_some,Option.getD_some,List.find?_map,Option.map_map]
  cases e:((rowsK ks1 m.2.1).zip m.2.2.2.2).find? ((fun q=>decide (q.1.1=z.1.2.1)) ∘ fun q=>((q.1.2.1,q.1.2.2.2),q.2)) with
  | none =>
   have:=List.find?_eq_none.mp e z hz
   simp at this
  | some x =>
   have h1:x.1.2.1=z.1.2.1:=by simpa using List.find?_some e
   rw [Ma nd hz (List.mem_of_find?_eq_some e) h1]
   rfl
 ·obtain ⟨m,em,hm,z,hz,rfl⟩:=rl d q hq
  have nd:=(YI hW.ok m.2.1).nd
  have hzr:=(List.of_mem_zip hz).1
  show rowK ks1 (kpD ms d.1) z.1.2.1=some z.1.2.2.2
  unfold kpD
  rw [em,Option.map_some,Option.getD_some]
  unfold rowK
  cases e:(rowsK ks1 m.2.1).find? fun r=>decide (r.2.1=z.1.2.1) with
  | none =>
   have:=List.find?_eq_none.mp e z.1 hzr
   simp at this
  | some x =>
   have h1:x.2.1=z.1.2.1:=by simpa using List.find?_some e
   obtain ⟨i,hi,rfl⟩:=List.getElem_of_mem (List.mem_of_find?_eq_some e)
   obtain ⟨j,hj,ej⟩:=List.getElem_of_mem hzr
   have:i=j:=by
    refine (List.getElem?_inj (by rw [List.length_map];exact hi) nd).mp ?_
    rw [List.getElem?_map,List.getElem?_map,List.getElem?_eq_getElem hi,List.getElem?_eq_getElem hj,ej,Option.map_some,Option.map_some,h1]
   subst this
   rw [ej];rfl
 ·obtain ⟨m,em,hm,z,hz,rfl⟩:=rl d q hq
  obtain ⟨kd,hkf,erow,hkm⟩:=QV (D.kind hm)
  have hr:z.1 ∈ kd.2.2.2:=by rw [← erow];exact (List.of_mem_zip hz).1
  exact XI hW.ok (hW.leaf (hW.wg.cl kd hkm _ hr s hs)) n
 ·exact own (((D.rows hW hq).2.2.its i hi).2 _ e)
 ·exact own ((D.st.its i hi).2 _ e)
theorem V7 {K:PySem.W.Frag} {H:Hp} {tu wd lm wo:Addr} {sv:V} {ks1 ks:List KdT} {k01 k00:KdT} {t0:Tm} {ms:List MoT} {ow:List (Str × Str)} {Q:VK} {E:XK} (hTu:TuAt K H tu wd sv lm ks1 t0 ms) (D:Drawn ks1 ks k01 k00 t0 ms ow) (hF1:WF ks1) (hF2:WF ks) (hk01:ks1[0]?=some k01) (hk00:ks[0]?=some k00) (hWo:WoodAt K H wo ks)
 (q:∀ (s:Stt) (H':Hp),s=JQ ks ks1 ms.length 2 t0 ms k01.2.1 k00.2.1→Same H H'→Cl (46:) 2 (QB ks1 ms) t0 k01.2.1 k00.2.1 s→(s.ft=none→Q .non H')∧∀ (g:Spot × List Int) (u:Tree Str) (p qa:Addr) (v:V),s.ft=some g→(wayT ks1 (Zi s (g.1.n + 1) g.1.dm g.2 []).1 g.1.row).bs[0]?=some u →
  Wr (46:) (ruN ks1 ms) (Zi s (g.1.n + 1) g.1.dm g.2 []).2 t0 (.node (S []) 0 [u]) k00.2.1→OfK (rowK ks1) 17 k01.2.1 u→SqT K H' p [v,.ref qa]→TrV K H' v u→SqT K H' qa ((Zi s (g.1.n + 1) g.1.dm g.2 []).2.map V.int)→Q (.ref p) H'):X0 K 2 [.ref tu,.ref wo] H Q E:=by
 have hk01m:=List.mem_of_getElem? hk01
 have hO:=D.tuOk hF1
 have hm5:ms.length≤5:=by rw [D.len];exact D.l5
 have hnk:ms.length * ks.length≤15:=Nat.mul_le_mul hm5 hF2.l3
 obtain ⟨sF,hsF⟩ : ∃ sF,sF=JQ ks ks1 ms.length 2 t0 ms k01.2.1 k00.2.1:=⟨_,rfl⟩
 have hB:sF.ds.Nodup→(∀ d ∈ sF.ds,DOk ms.length ks d)→∃ j,Bf (46:) 2 (QB ks1 ms) (L0s (46:) 2 t0 k01.2.1 k00.2.1) j sF∧sF.ds.length≤j:=fun nd dk=>by
  have hst:Y4 (46:) 2 t0 k01.2.1 k00.2.1=actL ⟨[],none⟩ (L0s (46:) 2 t0 k01.2.1 k00.2.1):=Lv _ _ _
  obtain ⟨j,h1,h2⟩:=bfs (ms.length * ks.length + 1) 0 _ (Bf.start (f:=rowK ks) (n:=2) (rl:=QB ks1 ms) (L0:=L0s (46:) 2 t0 k01.2.1 k00.2.1) fun i hi=>by rw [(JV hi).2])
  rw [← hst] at h1 h2
  have hh:sF=Ug (46:) 2 (QB ks1 ms) (ms.length * ks.length + 1) 0 (Y4 (46:) 2 t0 k01.2.1 k00.2.1):=hsF
  rw [← hh] at h1 h2
  have hl:=ZL nd dk
  exact ⟨j,h1,by lia⟩
 have hbr:∀ {bs:List Str} {m b:Int},OwC bs ow m b→∃ i:Nat,b=(i:Int)∧i < bs.length:=fun ⟨i,j,o,_,e,_,h⟩=>⟨i,e,(List.getElem?_eq_some_iff.mp h).1⟩
 have lv16:sF.ds.Nodup→(∀ d ∈ sF.ds,DOk ms.length ks d)→∀ g,sF.ft=some g→g.1.lv≤16:=fun nd dk g hg=>by
  obtain ⟨j,B,hj⟩:=hB nd dk
  have:=(B.cl hj).bound hg
  have:=ZL nd dk
  lia
 refine ⟨ms.length,tu,wd,lm,wo,sv,ks1,ks,k01,k00,t0,ms,sF,rfl,hTu,hO,hk01,hWo,hF2.wg,hk00,by lia,by decide,hsF,fun nd dk=>?_,fun H6 g6 nd dk=>?_⟩
 ·obtain ⟨j,B,hj⟩:=hB nd dk
  refine ⟨B.gd (18:) ⟨by show 1≤10;decide,fun s hs=>?_⟩ (fun d x hx=>⟨(D.rows hF1 hx).1,(D.rows hF1 hx).2.2.mono fun m b h=>hbr h⟩) (D.st.mono fun m b h=>?_),fun g hg=>by have:=lv16 nd dk g hg;lia⟩
  ·obtain rfl:s=k01.2.1:=by simpa using hs
   exact hF1.leaf ⟨k01,hk01m,rfl⟩
  ·obtain ⟨i,e,hi⟩:=hbr h
   have hi:i < 1:=hi
   lia
 ·obtain ⟨j,B,hj⟩:=hB nd dk
  obtain ⟨q1,q2⟩:=q sF H6 hsF g6 (B.cl hj)
  refine ⟨q1,fun g u p qa v hft hu hlv hp hv hqa=>?_⟩
  obtain ⟨w1,w2⟩:=O3 (D.wy hF1 hk01m) B (fun d hd=>(dk d hd).1) hft hu
  have:=lv16 nd dk g hft
  exact q2 g u p qa v hft hu w1 (w2.mono (by unfold Spot.lv at this;lia)) hp hv hqa
theorem Mz {ks1 ks hs ks':List KdT} {t0:Tm} {ms ms':List MoT} (e1:hs.map QH=ks1.map QH) (e2:ks'.map QH=ks.map QH) (em:ms'.map mdK=ms.map mdK) (nm:Nat) (a b:Str):JQ ks' hs nm 2 t0 ms' a b=JQ ks ks1 nm 2 t0 ms a b:=by
 have el:ks'.length=ks.length:=by
  have:=congrArg List.length e2
  rwa [List.length_map,List.length_map] at this
 unfold JQ
 rw [Ur e2,YU e1 em,el]
end K61
namespace K61
open PySem L2 TM TT K9 K11
def W9 (K:PySem.W.Frag):Sp:=fun vs H Q _=>∃ (a:Addr) (ns:List Int),vs=[.ref a]∧SqL K H a (ns.map V.int)∧ns.length≤63∧∀ H',Q (.bl true) H'
abbrev Pe:List Str:=["_law_script", "_law_names_here", "_law_wood_here", "_law_out", "_law_turning_here", "_law_handed", "_law_other", "_law_found"]
abbrev plS (s:Stt) (g:Spot × List Int):List Int:=(Zi s (g.1.n + 1) g.1.dm g.2 []).2
abbrev trS (hs:List KdT) (s:Stt) (g:Spot × List Int):Tree Str:=wayT hs (Zi s (g.1.n + 1) g.1.dm g.2 []).1 g.1.row
inductive Fo (K:PySem.W.Frag) (hs k1 k2:List KdT) (t0:Tm) (ms:List MoT) (a b:Str) (sF:Stt) (H':Hp):V→Prop
 | no:sF.ft=none→Fo K hs k1 k2 t0 ms a b sF H' .non
 | yes {g:Spot × List Int} {u:Tree Str} {p qa:Addr} {v:V}:sF.ft=some g→(trS hs sF g).bs[0]?=some u→Wr (rowK k2) (ruN k1 ms) (plS sF g) t0 (.node (S []) 0 [u]) b→OfK (rowK k1) 17 a u→SqT K H' p [v,.ref qa]→TrV K H' v u→SqT K H' qa ((plS sF g).map V.int)→Fo K hs k1 k2 t0 ms a b sF H' (.ref p)
theorem Ve {K:PySem.W.Frag} {H:Hp} {tu wd lm wo:Addr} {sv:V} {k1 k2 hs h2:List KdT} {k01 k00 k01' k00':KdT} {t0:Tm} {ms ms':List MoT} {ow:List (Str × Str)} {Q:VK} {E:XK} (hTu:TuAt K H tu wd sv lm hs t0 ms') (D:Drawn k1 k2 k01 k00 t0 ms ow) (hF1:WF k1) (hF2:WF k2) (e1:hs.map QH=k1.map QH) (e2:h2.map QH=k2.map QH) (em:ms'.map mdK=ms.map mdK) (hk01:hs[0]?=some k01') (hk00:h2[0]?=some k00') (ek01:k01'.2.1=k01.2.1) (ek00:k00'.2.1=k00.2.1) (hWo:WoodAt K H wo h2)
 (q:∀ (fv:V) (H':Hp),Same H H'→Cl (rowK k2) 2 (QB k1 ms) t0 k01.2.1 k00.2.1 (JQ k2 k1 ms.length 2 t0 ms k01.2.1 k00.2.1)→Fo K hs k1 k2 t0 ms k01.2.1 k00.2.1 (JQ k2 k1 ms.length 2 t0 ms k01.2.1 k00.2.1) H' fv→Q fv H'):X0 K 2 [.ref tu,.ref wo] H Q E:=by
 have el:ms'.length=ms.length:=by
  have:=congrArg List.length em
  rwa [List.length_map,List.length_map] at this
 refine V7 hTu (D.of (k00':=k00') e1 e2 em ek01) (hF1.of e1) (hF2.of e2) hk01 hk00 hWo fun s H' es g' hCl=>?_
 rw [Mz e1 e2 em,el,ek01,ek00] at es
 rw [Ur e2,YU e1 em,ek01,ek00] at hCl
 rw [es] at hCl
 refine ⟨fun hft=>q .non H' g' hCl (.no (by rw [← es];exact hft)),fun g u p qa v hft hu hw hk hp hv hqa=>?_⟩
 rw [Ur e2,ND e1 em,ek00] at hw
 rw [Ur e1,ek01] at hk
 rw [es] at hft hu hw hqa
 exact q (.ref p) H' g' hCl (.yes hft hu hw hk hp hv hqa)
section
variable {P:Program} {w:World} {K:PySem.W.Frag} {mg:Str→Option Value} {base:Heap} {f:Addr} {fd:FuncData}
theorem Y6:FnScope Pe ["_law_script"] (defScope XU):=(1:)
theorem NP (F:Fun K "law" "law" XU f fd) (G:Gm mg) (RC:Fn P w K mg base 1 "_law_cell_at" ["_law_script", "_law_k"] (JF K)) (RN:Fn P w K mg base 2 "_law_names" ["_law_cell"] (J0 K)) (RW:Fn P w K mg base 2 "_law_wood" ["_law_cell", "_law_names_here"] (Wt K)) (RT:Fn P w K mg base 4 "_law_turning" Lj (Y3 K))
 (RP:Fn P w K mg base 1 "_law_copy" ["_law_turning_here"] (WB K)) (RY:Fn P w K mg base 8 "strays" ["turning", "wood"] (X0 K 2)) (RR:Fn P w K mg base 6 "_law_right" ["_law_turning_here", "_law_out"] (Xe K 2)) (RO:Fn P w K mg base 42 "_law_of_kind" Vs (Xu K 40)) (RA:Fn P w K mg base 4 "_law_wrong_at" waP (YT K)):FnOk P w K mg base CX0 43 f fd ["_law_script"] (W9 K):=by
 refine F.ok Y6 (8:) (4:)
 ·obtain ⟨a,cs,rfl,_⟩:=h
  rfl
 obtain ⟨a,cs,rfl,hS,_,q⟩:=h
 have room:∀ m:Nat,m≤64→(A.deeper (PyProof.Rows.envOfC "law" (defScope XU) s.heap.objs.size f cdv)).units + m < cLine:=fun m hm=>by have:=hr.units;lia
 refine ⟨_,(Qe (Ql (i:=1) Y6.nd rfl (7:) (Qs RN hr (Qa (Qs RC hr (Qa (pv 0) (Qa (Qb) Qd))) Qd)))
  (Qe (Ql (i:=2) Y6.nd rfl (7:) (Qs RW hr (Qa (Qs RC hr (Qa (pv 0) (Qa (Qb) Qd))) (Qa (pv 1) Qd))))
  (Qe (Ql (i:=3) Y6.nd rfl (7:) (Qs RW hr (Qa (Qs RC hr (Qa (pv 0) (Qa (Qb) Qd))) (Qa (pv 1) Qd))))
  (Qe (Ql (i:=4) Y6.nd rfl (7:) (Qs RT hr (Qa (pv 0) (Qa (pv 2) (Qa (pv 3) (Qa (pv 1) Qd))))))
  (Qe (Ql (i:=5) Y6.nd rfl (7:) (Qs RP hr (Qa (pv 4) Qd)))
  (Qe (ZY (i:=6) (28:) rfl (QO (pv 3)) (W8 (28:) rfl) (fun _ _ _ _=>ZB) (53:) Y6.nd rfl rfl)
  (Qe (Ql (i:=7) Y6.nd rfl (7:) (Qs RY hr (Qa (pv 5) (Qa (pv 6) Qd))))
  (Qe (QF (PW.pt (pw_or (Qp Y5 (pv 5) (pv 4) (Qt _)) (pw_or1 (Qp Y5 (pv 6) (pv 3) (Qt _))))) (Qh (Qo Zq)) Qu)
  (Qe (QF (Q0 (Qs RR hr (Qa (pv 4) (Qa (pv 3) Qd)))) (Qh (Qo (NW (UJ (pv 7))))) Qu)
  (Qe (QF (PW.pt (pw_or (Zf (Q0 (Qr Zm rfl G.isi PyProof.Rows.boot_isinstance (Qa (pv 7) (58:))))) (pw_or (Qp GV (Qr Qn rfl G.len PySem.boot_len (Qa (pv 7) Qd)) Qb (Qt _)) (pw_or1 (Zf (Q0 (Qs RO hr (Qa (pv 2) (Qa (Qi Qg (Qi Qx (pv 2) Qb (3:)) Qb (3:)) (Qa (Qi Qg (pv 7) Qb (3:)) (Qa (Qb) Qd))))))))))) (Qh (Qo Zq)) Qu)
  (Qh (Qo (UI (Qs RA hr (Qa (pv 4) (Qa (pv 3) (Qa (Qi Qg (pv 7) Qb (3:)) (Qa (Qi Qg (pv 7) Qb (3:)) Qd))))) (UV (Z1 Lc (Qs RY hr (Qa (pv 5) (Qa (pv 6) Qd))) (pv 7) (Qt _)))))))))))))))),?_⟩
 refine ⟨_,rfl,a,cs,0,rfl,by decide,hS,fun c0=>⟨c0,rfl,fun ln H1 nn g1 hln hn8 hnd hnok=>?_⟩⟩
 refine ⟨_,rfl,a,cs,1,rfl,by decide,g1.seq hS,fun c1=>⟨_,rfl,c1,ln,nn,rfl,SqL.of hln,hn8,hnd,hnok,fun lw H2 k1 g2 hW1 hF1=>?_⟩⟩
 have g12:=g1.trans g2
 refine ⟨_,rfl,a,cs,2,rfl,by decide,g12.seq hS,fun c2=>⟨_,rfl,c2,ln,nn,rfl,SqL.of (g2 _ _ hln),hn8,hnd,hnok,fun lo H3 k2 g3 hW2 hF2=>?_⟩⟩
 have g13:=g12.trans g3
 obtain ⟨k01,hk01⟩ : ∃ k,k1[0]?=some k:=⟨_,List.getElem?_eq_getElem hF1.ne⟩
 obtain ⟨k00,hk00⟩ : ∃ k,k2[0]?=some k:=⟨_,List.getElem?_eq_getElem hF2.ne⟩
 have hk01m:=List.mem_of_getElem? hk01
 refine ⟨_,rfl,_,rfl,_,rfl,_,rfl,a,lw,lo,ln,cs,k1,k2,k01,k00,nn,rfl,g13.seq hS,hW1.same g3,hF1,hk01,hW2,hF2,hk00,SqL.of (g3 _ _ (g2 _ _ hln)),hn8,hnok,fun tu lm sv H4 t0 ms ow g4 hTu D=>?_⟩
 have hO:=D.tuOk hF1
 have hm5:ms.length≤5:=by rw [D.len];exact D.l5
 have hnk:ms.length * k2.length≤15:=Nat.mul_le_mul hm5 hF2.l3
 have hat1:atI (k1.map fun k=>V.ref k.1) 0=some (.ref k01.1):=Qy (j:=0) (by rw [List.getElem?_map,hk01];rfl)
 refine ⟨_,rfl,tu,lw,lm,sv,k1,t0,ms,rfl,hTu,hF1.ok,by lia,fun hd wd' lm' hs ms' H5 g5 hHd e1 em=>?_⟩
 have hW25:=hW2.same (g4.trans g5)
 refine ⟨_,rfl,lo,rfl,⟨_,hW25.1⟩,fun ly hly=>?_⟩
 refine Op hW25 hF2.ok hly fun h2 HA gA e2 hh2=>?_
 obtain ⟨k01',hk01',ek01⟩:=Xv e1 hk01
 obtain ⟨k00',hk00',ek00⟩:=Xv e2 hk00
 have hHdA:=hHd.same gA
 obtain ⟨tl1,tl2⟩:=D.lay hF1
 obtain ⟨wl1,wl2⟩:=V4 hF2
 have g4A:=g5.trans gA
 refine ⟨_,rfl,_,rfl,?_⟩
 dsimp only [Yu]
 refine Ve hHdA D hF1 hF2 e1 e2 em hk01' hk00' ek01 ek00 hh2 fun fv HB gB hCl hFo=>?_
 have hHdB:=hHdA.same gB
 have hTuB:=hTu.same (g4A.trans gB)
 have hh2B:=hh2.same gB
 have hW2B:=hW25.same (gA.trans gB)
 have hW1B:=hW1.same (g3.trans (g4.trans (g4A.trans gB)))
 have rd1:RdV K HB (.ref hd) (tuD (k1.map QH) t0 (ms.map mdK)):=by rw [← e1,← em];exact MZ hHdB
 have rd3:RdV K HB (.ref ly) (Wl k2):=by
  unfold Wl
  rw [← e2]
  exact .lst hh2B.1 (YM hh2B.2)
 have rd4:RdV K HB (.ref lo) (Wl k2):=.lst hW2B.1 (YM hW2B.2)
 refine ⟨_,rfl,_,rfl,_,_,rd1,MZ hTuB,tl1,tl1,room _ (Nat.le_trans (Nat.min_le_left _ _) (11:)),_,rfl,?_⟩
 rw [if_pos rfl,Ya _ tl1]
 refine Q3 ⟨_,rfl,_,rfl,_,_,rd3,rd4,wl1,wl1,room _ (Nat.le_trans (Nat.min_le_left _ _) (11:)),_,rfl,?_⟩
 rw [if_pos rfl,Ya _ wl1]
 refine Q3 ?_
 refine ⟨_,rfl,_,rfl,ms.length,tu,lw,lm,lo,sv,k1,k2,k00,t0,ms,k01.2.1,_,rfl,hTuB,hO,hW2B,hF2.wg,hk00,by lia,by decide,hF2.nm,fun k=>Nat.le_trans D.st.len (18:),fun m hm=>⟨?_,fun t ht k=>?_⟩,hCl,fun b HC gC hiff=>⟨_,rfl,?_⟩⟩
 ·obtain ⟨kd,hkf,erow,hkm⟩:=QV (D.kind hm)
  rw [(D.ru m hm).1,erow]
  exact (hF1.kf kd hkm).ok.len
 ·obtain ⟨bs,hb⟩:=D.rule hm ht
  exact Nat.le_trans hb.len (18:)
 clear hCl
 generalize hsF:JQ k2 k1 ms.length 2 t0 ms k01.2.1 k00.2.1=sF at hFo hiff
 cases hFo with
 | no hft =>
  obtain rfl:b=true:=hiff.mpr hft
  exact Q8 ⟨_,rfl,q _⟩
 | yes hft hu hw hk hp hv hqa =>
 rename_i g u p qa v
 have eb:b=false:=by
  cases b with
  | false=>rfl
  | true=>have:=hiff.mp rfl;rw [hft] at this;cases this
 subst eb
 refine Q3 ?_
 have hpC:=gC.seqT hp
 have hvC:=hv.mono fun _ _=>gC.seqT
 have hW1C:=hW1B.same gC
 refine ⟨_,rfl,p,_, "tuple", true,rfl,hpC,rfl,_,rfl,Q3 ⟨_,rfl,p,_,rfl,.inr hpC,rfl,_,rfl,Gu rfl ⟨_,rfl,_,rfl,lw,_,0,_,rfl,rfl,hW1C.1,hat1,k01.1,_,0,_,rfl,rfl,(hW1C.2 k01 hk01m).1,rfl,_,rfl,p,_,0,_,rfl,rfl,hpC,rfl,lw,_,v,u,k1,rfl,hW1C,hF1.wg,⟨k01,hk01m,rfl⟩,hvC,hk.mono (18:),fun HD gD=>⟨_,rfl,Q3 ?_⟩⟩⟩⟩
 have gBD:=gC.trans gD
 have hpD:=gBD.seqT hp
 refine ⟨_,rfl,_,rfl,_,rfl,p,_,0,_,rfl,rfl,hpD,rfl,_,rfl,p,_,1,_,rfl,rfl,hpD,rfl,tu,lo,qa,v,k1,k2,k00,t0,ms,_,u,rfl,⟨_,_,_,_,_,hTuB.same gBD,hO⟩,hW2B.same gBD,hF2.wg,hk00,hv.mono fun _ _=>gBD.seqT,gBD.seqT hqa,hw,fun HE gE=>⟨true,rfl,Q8 ?_⟩⟩
 have gBE:=gBD.trans gE
 refine ⟨_,rfl,_,rfl,?_⟩
 dsimp only [Yu]
 refine Ve (hHdB.same gBE) D hF1 hF2 e1 e2 em hk01' hk00' ek01 ek00 (hh2B.same gBE) fun fv2 HF gF hCl2 hFo2=>?_
 rw [hsF] at hFo2
 cases hFo2 with
 | no hft2=>rw [hft] at hft2;cases hft2
 | yes hft2 hu2 hw2 hk2 hp2 hv2 hqa2 =>
 rename_i g' u' p' qa' v'
 obtain rfl:g=g':=Option.some.inj (hft.symm.trans hft2)
 obtain rfl:u=u':=Option.some.inj (hu.symm.trans hu2)
 obtain ⟨l1,l2⟩:=NM (hk.lay hF1.ok) (plS sF g)
 have gBF:=gBE.trans gF
 refine ⟨_,rfl,_,_,MN hp2 hv2 hqa2,MN (gBF.seqT hp) (hv.mono fun _ _=>gBF.seqT) (gBF.seqT hqa),l1,l1,room _ (Nat.le_trans (Nat.min_le_left _ _) (11:)),?_⟩
 rw [if_neg Bool.false_ne_true,Ya _ l1]
 exact q _
end
end K61
namespace L2
theorem ln1 {α:Type} {us:List α} (h:us.length=1):∃ a,us=[a]:=List.length_eq_one_iff.mp h
theorem ln2 {α:Type} {us:List α} (h:us.length=2):∃ a b,us=[a,b]:=by
 match us,h with
 | [a,b],_=>exact ⟨a,b,rfl⟩
theorem ln3 {α:Type} {us:List α} (h:us.length=3):∃ a b c,us=[a,b,c]:=by
 match us,h with
 | [a,b,c],_=>exact ⟨a,b,c,rfl⟩
theorem ln4 {α:Type} {us:List α} (h:us.length=4):∃ a b c d,us=[a,b,c,d]:=by
 match us,h with
 | [a,b,c,d],_=>exact ⟨a,b,c,d,rfl⟩
theorem ln5 {α:Type} {us:List α} (h:us.length=5):∃ a b c d e,us=[a,b,c,d,e]:=by
 match us,h with
 | [a,b,c,d,e],_=>exact ⟨a,b,c,d,e,rfl⟩
end L2
namespace L2
open PySem
structure MethAt (K:PySem.W.Frag) (C:Addr) (m qual:Str) (st:Stmt):Prop where
 ex:∃ (f:Addr) (oc:Value) (od:Option Addr) (kV doc pm:Value) (an:Option Addr) (cdv ct:Value) (osl:Array (Option Value)),
  PySem.W.findIn K (.ref C) m=some (some (.ref f))∧PySem.W.isFn K (.ref f)=true∧K.lookup f=some ⟨oc,od,.func (PySem.W.fnOf m qual (defArgs st) (defBody st) (defScope st) .none kV doc pm an cdv ct),osl⟩∧PySem.W.codeIn K cdv qual=true∧PySem.W.keepIn K (.ref f)=true
theorem MethAt.mk' {K:PySem.W.Frag} {C:Addr} {m qual:Str} {st:Stmt} {f:Addr} {oc:Value} {od:Option Addr} {kV doc pm:Value} {an:Option Addr} {cdv ct:Value} {osl:Array (Option Value)}
 (a:PySem.W.findIn K (.ref C) m=some (some (.ref f))) (i:PySem.W.isFn K (.ref f)=true) (l:K.lookup f=some ⟨oc,od,.func (PySem.W.fnOf m qual (defArgs st) (defBody st) (defScope st) .none kV doc pm an cdv ct),osl⟩) (c:PySem.W.codeIn K cdv qual=true) (k:PySem.W.keepIn K (.ref f)=true):MethAt K C m qual st :=
 ⟨f,oc,od,kV,doc,pm,an,cdv,ct,osl,a,i,l,c,k⟩
theorem ln8 {α:Type} {us:List α} (h:us.length=8):∃ a b c d e f g i,us=[a,b,c,d,e,f,g,i]:=by
 match us,h with
 | [a,b,c,d,e,f,g,i],_=>exact ⟨a,b,c,d,e,f,g,i,rfl⟩
end L2
namespace K61
open PySem L2
structure DmK (K:PySem.W.Frag):Prop where
 ex:∃ C:Addr,PySem.W.nsIn K mainGlobals "Demands" = some (some (.ref C))∧Cls K C∧NoAttr K C "turning" ∧ NoAttr K C "kinds_below" ∧ NoAttr K C "steps" ∧ NoAttr K C "waiting" ∧ NoAttr K C "fault" ∧ PySem.W.makesIn K C=true∧PySem.W.keepIn K (.ref C)=true ∧
  MethAt K C "__init__" "Demands.__init__" XX∧MethAt K C "look_by" "Demands.look_by" YF∧MethAt K C "look" "Demands.look" Jy∧MethAt K C "meet_demand" "Demands.meet_demand" sMD∧MethAt K C "meet_fault" "Demands.meet_fault" sMF∧MethAt K C "tree_and_place" "Demands.tree_and_place" sTP
theorem DmK.mk' {K:PySem.W.Frag} {C:Addr} (aC:PySem.W.nsIn K mainGlobals "Demands" = some (some (.ref C))) (pg:PySem.W.plainGet K C Str.empty=true) (hd:PySem.W.hasDictIn K C=true) (po:PySem.W.plainOver K C=true)
 (sa:PySem.W.findIn K (.ref C) "__setattr__" = some (some (.builtin "object.__setattr__"))) (n1:PySem.W.findIn K (.ref C) "turning" = some none) (n2:PySem.W.findIn K (.ref C) "kinds_below" = some none) (n3:PySem.W.findIn K (.ref C) "steps" = some none) (n4:PySem.W.findIn K (.ref C) "waiting" = some none) (n5:PySem.W.findIn K (.ref C) "fault" = some none)
 (mk:PySem.W.makesIn K C=true) (kc:PySem.W.keepIn K (.ref C)=true) (m1:MethAt K C "__init__" "Demands.__init__" XX) (m2:MethAt K C "look_by" "Demands.look_by" YF) (m3:MethAt K C "look" "Demands.look" Jy) (m4:MethAt K C "meet_demand" "Demands.meet_demand" sMD) (m5:MethAt K C "meet_fault" "Demands.meet_fault" sMF) (m6:MethAt K C "tree_and_place" "Demands.tree_and_place" sTP):DmK K :=
 ⟨C,aC,⟨pg,hd,po,sa⟩,n1,n2,n3,n4,n5,mk,kc,m1,m2,m3,m4,m5,m6⟩
theorem DmK.m {P:Program} {w:World} {K:PySem.W.Frag} {mg:Str→Option Value} {base h:Heap} (S:DmK K) (X:K.In h) (N:h.Ns mainGlobals mg) (G:Gm mg) (RC:Fn P w K mg base 1 "is_call" ["term"] (XZ K)) (RL:Fn P w K mg base 1 "levels_needed" ["fault"] (Xi K)) (RA:Fn P w K mg base 1 "row_above" ["wood"] (Uu K)) (RO:Fn P w K mg base 1 "rows_of" ["wood", "kind"] (Z8 K)) (RT:Fn P w K mg base 4 "tree_on" ["wood", "way", "row", "mark"] (YH K)) (n:Nat):∃ C,DmM P w K mg base C n:=by
 obtain ⟨C,aC,cl,n1,n2,n3,n4,n5,mk,kc,m1,m2,m3,m4,m5,m6⟩:=S.ex
 have T:DmT K mg C:=⟨cl,n1,n2,n3,n4,n5,PySem.W.mg_of X N aC⟩
 obtain ⟨f1,oc1,od1,kV1,doc1,pm1,an1,cdv1,ct1,osl1,a1,i1,l1,c1,k1⟩:=m1.ex
 obtain ⟨f2,oc2,od2,kV2,doc2,pm2,an2,cdv2,ct2,osl2,a2,i2,l2,c2,k2⟩:=m2.ex
 obtain ⟨f3,oc3,od3,kV3,doc3,pm3,an3,cdv3,ct3,osl3,a3,i3,l3,c3,k3⟩:=m3.ex
 obtain ⟨f4,oc4,od4,kV4,doc4,pm4,an4,cdv4,ct4,osl4,a4,i4,l4,c4,k4⟩:=m4.ex
 obtain ⟨f5,oc5,od5,kV5,doc5,pm5,an5,cdv5,ct5,osl5,a5,i5,l5,c5,k5⟩:=m5.ex
 obtain ⟨f6,oc6,od6,kV6,doc6,pm6,an6,cdv6,ct6,osl6,a6,i6,l6,c6,k6⟩:=m6.ex
 have F6:=Zj (st:=sTP) l6 c6 k6
 have b6:Binds K _ ["self"] []:=F6.binds fun _ _ _ _ _ _ us hl=>by obtain ⟨a1,rfl⟩:=ln1 hl;rfl
 have F1:=Zj (st:=XX) l1 c1 k1
 have F2:=Zj (st:=YF) l2 c2 k2
 have F3:=Zj (st:=Jy) l3 c3 k3
 have F4:=Zj (st:=sMD) l4 c4 k4
 have F5:=Zj (st:=sMF) l5 c5 k5
 have b1:Binds K _ ["self", "turning", "wood"] []:=F1.binds fun _ _ _ _ _ _ us hl=>by obtain ⟨a1,a2,a3,rfl⟩:=ln3 hl;rfl
 have b2:Binds K _ ["self", "demand"] []:=F2.binds fun _ _ _ _ _ _ us hl=>by obtain ⟨a1,a2,rfl⟩:=ln2 hl;rfl
 have b3:Binds K _ ["self", "spot", "place", "term", "kind"] []:=F3.binds fun _ _ _ _ _ _ us hl=>by obtain ⟨a1,a2,a3,a4,a5,rfl⟩:=ln5 hl;rfl
 have b4:Binds K _ ["self", "demand", "step"] []:=F4.binds fun _ _ _ _ _ _ us hl=>by obtain ⟨a1,a2,a3,rfl⟩:=ln3 hl;rfl
 have b5:Binds K _ ["self", "fault"] []:=F5.binds fun _ _ _ _ _ _ us hl=>by obtain ⟨a1,a2,rfl⟩:=ln2 hl;rfl
 have mL:Meth K C "look" f3:=⟨a3,i3,k3⟩
 have FL:=XR F3 G T RC ⟨a5,i5,k5⟩ (OG F5 T RL) b5 ⟨a4,i4,k4⟩ (Oy F4 T) b4 mL b3 n
 have mB:Meth K C "look_by" f2:=⟨a2,i2,k2⟩
 exact ⟨C,T,⟨f1,_,⟨mk,a1,i1,kc⟩,ME F1 G T RA mL FL b3 mB (Og F2 G T RO mL FL b3) b2,b1⟩,⟨f6,_,⟨a6,i6,k6⟩,Oa F6 G T RT,b6⟩⟩
end K61
namespace K61
open PySem L2
theorem all_mk {l:PySem.W.OpenLaw} {w:World} {K:PySem.W.Frag} {h:Heap} {mg:Str→Option Value} {fa:Addr} (X:K.In h) (N:h.Ns mainGlobals mg) (hfa:mg "law" = some (.ref fa))
 (d1:DefAt K "is_call" Nd) (d2:DefAt K "at" sAt) (d3:DefAt K "put_at" WE) (d4:DefAt K "has_number" GZ) (d5:DefAt K "put_below" XQ) (d6:DefAt K "rows_of" JU) (d7:DefAt K "leaf_of" Lg) (d8:DefAt K "leafy" X6) (d9:DefAt K "row_above" Wb) (d10:DefAt K "tree_on" JE) (d11:DefAt K "strays" J5) (d12:DefAt K "levels_needed" NZ) (d13:DefAt K "_law_cell_at" VW) (d14:DefAt K "_law_mixed" WK) (d15:DefAt K "_law_names" Wu) (d16:DefAt K "_law_great" Wd) (d17:DefAt K "_law_wood" Vj) (d18:DefAt K "_law_row" NE) (d19:DefAt K "_law_fits" Gr) (d20:DefAt K "_law_loose" Z9) (d21:DefAt K "_law_calls" X9) (d22:DefAt K "_law_turning" UG) (d23:DefAt K "_law_asks" Xo) (d24:DefAt K "_law_pairs" J3) (d25:DefAt K "_law_rule" Lf) (d26:DefAt K "_law_label" J7) (d27:DefAt K "_law_branch" Us) (d28:DefAt K "_law_come" GS) (d29:DefAt K "_law_root" GB) (d30:DefAt K "_law_whole" WA) (d31:DefAt K "_law_copy" Lq) (d32:DefAt K "_law_of_kind" GA) (d33:DefAt K "_law_wrong_at" U2) (d34:DefAt K "_law_right" Wq) (d35:DefAt K "law" XU)
 (z1:PySem.W.nsIn K mainGlobals "len" = some none) (z2:PySem.W.nsIn K mainGlobals "isinstance" = some none) (z3:PySem.W.nsIn K mainGlobals "int" = some none) (z4:PySem.W.nsIn K mainGlobals "bool" = some none) (z5:PySem.W.nsIn K mainGlobals "str" = some none) (z6:PySem.W.nsIn K mainGlobals "tuple" = some none) (z7:PySem.W.nsIn K mainGlobals "list" = some none) (z8:PySem.W.nsIn K mainGlobals "range" = some none) (z9:PySem.W.nsIn K mainGlobals "zip" = some none) (z10:PySem.W.nsIn K mainGlobals "dict" = some none) (z11:PySem.W.nsIn K mainGlobals "sorted" = some none) (z12:PySem.W.nsIn K mainGlobals "reversed" = some none) (z13:PySem.W.nsIn K mainGlobals "enumerate" = some none) (z14:PySem.W.nsIn K mainGlobals "max" = some none)  {t40:Tok} (s1:DmK K) (g1:PySem.W.nsIn K mainGlobals "MOST_LEVELS" = some (some (.int 40 t40))) :
 ∃ fd:FuncData,(∀ (s:Shared) (v:Value),BindsTo s fd ⟨[v],[]⟩ [("_law_script", v)])∧∀ base:Heap,K.In base→base.Ns mainGlobals mg→FnOk l.prog w K mg base CX0 43 fa fd ["_law_script"] (W9 K):=by
 have G:Gm mg:=⟨PySem.W.mg_none_of X N z1,PySem.W.mg_none_of X N z2,PySem.W.mg_none_of X N z3,PySem.W.mg_none_of X N z4,PySem.W.mg_none_of X N z5,PySem.W.mg_none_of X N z6,PySem.W.mg_none_of X N z7,PySem.W.mg_none_of X N z8,PySem.W.mg_none_of X N z9,PySem.W.mg_none_of X N z10,PySem.W.mg_none_of X N z11,PySem.W.mg_none_of X N z12,PySem.W.mg_none_of X N z13,PySem.W.mg_none_of X N z14⟩
 obtain ⟨f,oc,od,kV,doc,pm,an,cdv,ct,osl,a,lk,c,kp⟩:=d35.ex
 have e:=hfa.symm.trans (PySem.W.mg_of X N a)
 cases e
 have F:=Zj (st:=XU) lk c kp
 refine ⟨PySem.W.fnOf "law" "law" (defArgs XU) (defBody XU) (defScope XU) .none kV doc pm an cdv ct,fun s v=>.of_eq rfl,fun base _ _=>?_⟩
 have rIC:Fn l.prog w K mg base 1 "is_call" ["term"] (XZ K):=d1.fn X N (fun f fd F=>M3 F) fun _ _ _ _ _ _ us hl=>by obtain ⟨a1,rfl⟩:=ln1 hl;rfl
 have rHN:Fn l.prog w K mg base 1 "has_number" ["branches", "number"] (G1 K):=d4.fn X N (fun f fd F=>NX F G rfl) fun _ _ _ _ _ _ us hl=>by obtain ⟨a1,a2,rfl⟩:=ln2 hl;rfl
 have rAt:Fn l.prog w K mg base 2 "at" ["tree", "place"] (Nr K):=d2.fn X N (fun f fd F=>Os F rHN) fun _ _ _ _ _ _ us hl=>by obtain ⟨a1,a2,rfl⟩:=ln2 hl;rfl
 have rPB:Fn l.prog w K mg base 2 "put_below" ["tree", "place", "other"] (Yp K 2):=by
  obtain ⟨f,oc,od,kV,doc,pm,an,cdv,ct,osl,a,lk,c,kp⟩:=d5.ex
  have F:=Zj (st:=XQ) lk c kp
  have hb:Binds K _ ["tree", "place", "other"] []:=F.binds fun _ _ _ _ _ _ us hl=>by obtain ⟨a1,a2,a3,rfl⟩:=ln3 hl;rfl
  exact ⟨f,_,XH F G hb (PySem.W.mg_of X N a) 2,hb,kp,PySem.W.mg_of X N a⟩
 have rPA:Fn l.prog w K mg base 3 "put_at" ["tree", "place", "other"] (Xc K):=d3.fn X N (fun f fd F=>GK F rAt rPB) fun _ _ _ _ _ _ us hl=>by obtain ⟨a1,a2,a3,rfl⟩:=ln3 hl;rfl
 have rRO:Fn l.prog w K mg base 1 "rows_of" ["wood", "kind"] (Z8 K):=d6.fn X N (fun f fd F=>VQ F G) fun _ _ _ _ _ _ us hl=>by obtain ⟨a1,a2,rfl⟩:=ln2 hl;rfl
 have rLf:Fn l.prog w K mg base 2 "leaf_of" ["wood", "kind"] (J2 K):=d7.fn X N (fun f fd F=>Ly F G rRO) fun _ _ _ _ _ _ us hl=>by obtain ⟨a1,a2,rfl⟩:=ln2 hl;rfl
 have rLy:Fn l.prog w K mg base 3 "leafy" ["wood", "name", "mark", "kinds"] (J1 K):=d8.fn X N (fun f fd F=>GJ F G rLf) fun _ _ _ _ _ _ us hl=>by obtain ⟨a1,a2,a3,a4,rfl⟩:=ln4 hl;rfl
 have rAb:Fn l.prog w K mg base 1 "row_above" ["wood"] (Uu K):=d9.fn X N (fun f fd F=>Lp F) fun _ _ _ _ _ _ us hl=>by obtain ⟨a1,rfl⟩:=ln1 hl;rfl
 have rTO:Fn l.prog w K mg base 4 "tree_on" ["wood", "way", "row", "mark"] (YH K):=d10.fn X N (fun f fd F=>VG F G rLy rPA) fun _ _ _ _ _ _ us hl=>by obtain ⟨a1,a2,a3,a4,rfl⟩:=ln4 hl;rfl
 have rLN:Fn l.prog w K mg base 1 "levels_needed" ["fault"] (Xi K):=d12.fn X N (fun f fd F=>Nu F G) fun _ _ _ _ _ _ us hl=>by obtain ⟨a1,rfl⟩:=ln1 hl;rfl
 have h40:mg "MOST_LEVELS" = some (.int 40 t40):=PySem.W.mg_of X N g1
 obtain ⟨C,M⟩:=s1.m (P:=l.prog) (w:=w) (base:=base) X N G rIC rLN rAb rRO rTO 2
 have rST:Fn l.prog w K mg base 8 "strays" ["turning", "wood"] (X0 K 2):=d11.fn X N (fun f fd F=>NQ F M rLN h40) fun _ _ _ _ _ _ us hl=>by obtain ⟨a1,a2,rfl⟩:=ln2 hl;rfl
 have rC:Fn l.prog w K mg base 1 "_law_cell_at" ["_law_script", "_law_k"] (JF K):=d13.fn X N (fun f fd F=>LK F G) fun _ _ _ _ _ _ us hl=>by obtain ⟨a1,a2,rfl⟩:=ln2 hl;rfl
 have rM:Fn l.prog w K mg base 1 "_law_mixed" ["_law_cell", "_law_k"] ZX:=d14.fn X N (fun f fd F=>Gi F) fun _ _ _ _ _ _ us hl=>by obtain ⟨a1,a2,rfl⟩:=ln2 hl;rfl
 have rN:Fn l.prog w K mg base 2 "_law_names" ["_law_cell"] (J0 K):=d15.fn X N (fun f fd F=>GY F G rM) fun _ _ _ _ _ _ us hl=>by obtain ⟨a1,rfl⟩:=ln1 hl;rfl
 have rG:Fn l.prog w K mg base 1 "_law_great" ["_law_cell"] Ut:=d16.fn X N (fun f fd F=>GP F) fun _ _ _ _ _ _ us hl=>by obtain ⟨a1,rfl⟩:=ln1 hl;rfl
 have rW:Fn l.prog w K mg base 2 "_law_wood" ["_law_cell", "_law_names_here"] (Wt K):=d17.fn X N (fun f fd F=>LX F G rM) fun _ _ _ _ _ _ us hl=>by obtain ⟨a1,a2,rfl⟩:=ln2 hl;rfl
 have rR:Fn l.prog w K mg base 1 "_law_row" ["_law_wood_here", "_law_kind", "_law_name"] (Ub K):=d18.fn X N (fun f fd F=>NL F G) fun _ _ _ _ _ _ us hl=>by obtain ⟨a1,a2,a3,rfl⟩:=ln3 hl;rfl
 have rF:Fn l.prog w K mg base 2 "_law_fits" ["_law_wood_here", "_law_kind", "_law_label_here"] (Yn K):=d19.fn X N (fun f fd F=>LJ F G rR) fun _ _ _ _ _ _ us hl=>by obtain ⟨a1,a2,a3,rfl⟩:=ln3 hl;rfl
 have rL:Fn l.prog w K mg base 3 "_law_loose" ["_law_cell", "_law_k", "_law_deep", "_law_kind", "_law_wood_here", "_law_calls_here", "_law_keep", "_law_names_here"] (Z0 K 2):=by
  obtain ⟨f,oc,od,kV,doc,pm,an,cdv,ct,osl,a,lk,c,kp⟩:=d20.ex
  have F:=Zj (st:=Z9) lk c kp
  have hb:Binds K _ ["_law_cell", "_law_k", "_law_deep", "_law_kind", "_law_wood_here", "_law_calls_here", "_law_keep", "_law_names_here"] []:=F.binds fun _ _ _ _ _ _ us hl=>by obtain ⟨a1,a2,a3,a4,a5,a6,a7,a8,rfl⟩:=ln8 hl;rfl
  exact ⟨f,_,Jd F G rM rG hb (PySem.W.mg_of X N a) 2,hb,kp,PySem.W.mg_of X N a⟩
 have rK:Fn l.prog w K mg base 1 "_law_calls" ["_law_branches", "_law_owners"] (Xf K):=d21.fn X N (fun f fd F=>GW F G) fun _ _ _ _ _ _ us hl=>by obtain ⟨a1,a2,rfl⟩:=ln2 hl;rfl
 have rT:Fn l.prog w K mg base 4 "_law_turning" ["_law_script", "_law_wood_here", "_law_out", "_law_names_here"] (Y3 K):=d22.fn X N (fun f fd F=>LA F G rC rM rL rK) fun _ _ _ _ _ _ us hl=>by obtain ⟨a1,a2,a3,a4,rfl⟩:=ln4 hl;rfl
 have rA:Fn l.prog w K mg base 4 "_law_asks" ["_law_wood_here", "_law_term", "_law_kind"] (Z7 K 2):=by
  obtain ⟨f,oc,od,kV,doc,pm,an,cdv,ct,osl,a,lk,c,kp⟩:=d23.ex
  have F:=Zj (st:=Xo) lk c kp
  have hb:Binds K _ ["_law_wood_here", "_law_term", "_law_kind"] []:=F.binds fun _ _ _ _ _ _ us hl=>by obtain ⟨a1,a2,a3,rfl⟩:=ln3 hl;rfl
  exact ⟨f,_,XG F G rR rF hb (PySem.W.mg_of X N a) 2,hb,kp,PySem.W.mg_of X N a⟩
 have rP:Fn l.prog w K mg base 5 "_law_pairs" ["_law_turning_here", "_law_out"] (JY K 2):=d24.fn X N (fun f fd F=>Lu F G rA) fun _ _ _ _ _ _ us hl=>by obtain ⟨a1,a2,rfl⟩:=ln2 hl;rfl
 have rRl:Fn l.prog w K mg base 1 "_law_rule" ["_law_turning_here", "_law_mode", "_law_name"] (Ws K):=d25.fn X N (fun f fd F=>Mo F G) fun _ _ _ _ _ _ us hl=>by obtain ⟨a1,a2,a3,rfl⟩:=ln3 hl;rfl
 have rL0:Fn l.prog w K mg base 1 "_law_label" ["_law_i", "_law_node"] (J9 K):=d26.fn X N (fun f fd F=>L9 F G) fun _ _ _ _ _ _ us hl=>by obtain ⟨a1,a2,rfl⟩:=ln2 hl;rfl
 have rL1:Fn l.prog w K mg base 2 "_law_label" ["_law_i", "_law_node"] (WR K):=d26.fn X N (fun f fd F=>Mu F G rL0) fun _ _ _ _ _ _ us hl=>by obtain ⟨a1,a2,rfl⟩:=ln2 hl;rfl
 have rB0:Fn l.prog w K mg base 1 "_law_branch" ["_law_chain", "_law_i", "_law_node", "_law_k"] (G7 K):=d27.fn X N (fun f fd F=>Ng F) fun _ _ _ _ _ _ us hl=>by obtain ⟨a1,a2,a3,a4,rfl⟩:=ln4 hl;rfl
 have rCm:Fn l.prog w K mg base 2 "_law_come" ["_law_chain", "_law_i", "_law_term", "_law_read"] (JG K):=d28.fn X N (fun f fd F=>Mg F rB0 rRl rL0) fun _ _ _ _ _ _ us hl=>by obtain ⟨a1,a2,a3,a4,rfl⟩:=ln4 hl;rfl
 have rB1:Fn l.prog w K mg base 3 "_law_branch" ["_law_chain", "_law_i", "_law_node", "_law_k"] (V8 K):=d27.fn X N (fun f fd F=>NS F rCm) fun _ _ _ _ _ _ us hl=>by obtain ⟨a1,a2,a3,a4,rfl⟩:=ln4 hl;rfl
 have rRt:Fn l.prog w K mg base 3 "_law_root" ["_law_chain", "_law_tree"] (Wa K):=d29.fn X N (fun f fd F=>Me F G rCm) fun _ _ _ _ _ _ us hl=>by obtain ⟨a1,a2,rfl⟩:=ln2 hl;rfl
 have rWh:Fn l.prog w K mg base 1 "_law_whole" ["_law_found"] YA:=d30.fn X N (fun f fd F=>Gp F G) fun _ _ _ _ _ _ us hl=>by obtain ⟨a1,rfl⟩:=ln1 hl;rfl
 have rCp:Fn l.prog w K mg base 1 "_law_copy" ["_law_turning_here"] (WB K):=d31.fn X N (fun f fd F=>LQ F G) fun _ _ _ _ _ _ us hl=>by obtain ⟨a1,rfl⟩:=ln1 hl;rfl
 have rOK:Fn l.prog w K mg base 42 "_law_of_kind" ["_law_wood_here", "_law_kind", "_law_tree", "_law_deep"] (Xu K 40):=by
  obtain ⟨f,oc,od,kV,doc,pm,an,cdv,ct,osl,a,lk,c,kp⟩:=d32.ex
  have F:=Zj (st:=GA) lk c kp
  have hb:Binds K _ ["_law_wood_here", "_law_kind", "_law_tree", "_law_deep"] []:=F.binds fun _ _ _ _ _ _ us hl=>by obtain ⟨a1,a2,a3,a4,rfl⟩:=ln4 hl;rfl
  exact ⟨f,_,Vk F G rWh rR rF hb (PySem.W.mg_of X N a) 40,hb,kp,PySem.W.mg_of X N a⟩
 have rWA:Fn l.prog w K mg base 4 "_law_wrong_at" ["_law_turning_here", "_law_out", "_law_tree", "_law_found"] (YT K):=d33.fn X N (fun f fd F=>OB F G rWh rR rF rRt rL1 rB1) fun _ _ _ _ _ _ us hl=>by obtain ⟨a1,a2,a3,a4,rfl⟩:=ln4 hl;rfl
 have rRi:Fn l.prog w K mg base 6 "_law_right" ["_law_turning_here", "_law_out"] (Xe K 2):=d34.fn X N (fun f fd F=>Gb F G rA rP) fun _ _ _ _ _ _ us hl=>by obtain ⟨a1,a2,rfl⟩:=ln2 hl;rfl
 exact NP F G rC rN rW rT rCp rST rRi rOK rWA
theorem walk {l:PySem.W.OpenLaw} {q:Program} {loose:List Str} {XP:(Str→Option Value)→Heap→Prop} {YP:World→Heap→Prop} {d:DefRec} {K:Params→PySem.W.Frag} (hn:l.most=some 63) (hdf:d.params.defaults=[])
 (hY:∀ (w:World) (h:Heap),YP w h→(K w.params).In h)
 (F:∀ (w:World) (mg:Str→Option Value) (fa:Addr) (h:Heap),(K w.params).In h→h.Ns mainGlobals mg→mg d.name=some (.ref fa) →
  ∃ fd:FuncData,(∀ (s:Shared) (u:Value),BindsTo s fd ⟨[u],[]⟩ [("_law_script", u)])∧∀ base:Heap,(K w.params).In base→base.Ns mainGlobals mg→FnOk l.prog w (K w.params) mg base CX0 43 fa fd ["_law_script"] (W9 (K w.params))) :
 PySem.W.WalkO q loose XP YP l.row.toRowW d [] (fun f vs=>PySem.call f vs) :=
 L2.walk_of (n:=63) (k:=43) (x:="_law_script") (CX:=fun _=>CX0) (sp:=fun w=>W9 (K w.params)) hn (18:) hdf ⟨rfl,by decide,by decide⟩ hY F (fun _ _ a ns hl hO hS=>⟨a,ns,rfl,hS,hl,fun _=>rfl⟩) fun _ _ _ _ _ z=>z
end K61
section
open PySem
noncomputable def K61.vS (x:String) (n:Nat):Value:=.str (Str.ofString x) n
noncomputable def K61.vR (a:Nat):Value:=.ref a
noncomputable def K61.vI (i:Int) (n:Nat):Value:=.int i n
noncomputable def K61.hE (P:Params) (x:String) (n:Nat) (v:Value):DictEntry:=⟨PyData.keyHash P (Str.ofString x),.str (Str.ofString x) n,v⟩
noncomputable def K61.vN:Value:=.none
noncomputable def K61.vF:Value:=.type "function"
noncomputable def K61.vT:Value:=.bool true
noncomputable def K61.i0:Value:=.int 0 0
noncomputable def K61.i3:Value:=.int 3 0
noncomputable def K61.i1:Value:=.int 181 0
noncomputable def K61.cP (k:Nat):Value:=.str (Str.ofString "/claim/cut.py") k
noncomputable def K61.oT (x:Array Value):Obj:=Obj.mk (Value.type "tuple") none (Data.seq x) #[]
noncomputable def K61.oC (x:Array Value):Obj:=Obj.mk (Value.type "code") none (Data.fields x) #[]
noncomputable def K61.oF (c:Value) (x y:String) (s:Stmt) (k:Nat) (pm cd:Value):Obj:=Obj.mk c none (Data.func (FuncData.mk (Str.ofString x) (Str.ofString y) (L2.defArgs s) (.stmts (L2.defBody s)) (L2.defScope s) k [] Value.none Value.none Value.none pm none cd Value.none 0)) #[]
open K61
noncomputable def K61.oE:Obj:={ cls:=vN,data:=Data.fields #[] }
noncomputable def K61.x3 (P:Params):Obj:=Obj.mk (Value.type "dict") none (Data.dict #[hE P "__name__" 165 (2:),hE P "__doc__" 166 vN,hE P "__package__" 167 vN,hE P "__loader__" 168 (Value.builtin "__main__.__loader__#opaque"),hE P "__spec__" 169 vN,hE P "__annotations__" 170 (vR 6),hE P "__builtins__" 171 (vR 4),hE P "__file__" 173 (cP 172),hE P "__cached__" 174 vN,hE P "TurnError" 206 (vR 24),hE P "TooGreat" 222 (vR 37),hE P "is_call" 231 (vR 46),hE P "at" 243 (vR 53),hE P "put_at" 252 (vR 60),hE P "has_number" 260 (vR 67),hE P "put_below" 272 (vR 74),hE P "rows_of" 282 (vR 81),hE P "leaf_of" 292 (vR 88),hE P "leafy" 300 (vR 93),hE P "row_above" 307 (vR 100),hE P "tree_on" 321 (vR 107),hE P "MOST_LEVELS" 325 (vI 40 324),hE P "strays" 334 (vR 114),hE P "levels_needed" 342 (vR 121),hE P "Demands" 428 (vR 171),hE P "_law_cell_at" 438 (vR 182),hE P "_law_mixed" 447 (vR 189),hE P "_law_names" 453 (vR 194),hE P "_law_great" 460 (vR 201),hE P "_law_wood" 466 (vR 206),hE P "_law_row" 476 (vR 213),hE P "_law_fits" 486 (vR 220),hE P "_law_loose" 492 (vR 225),hE P "_law_calls" 503 (vR 232),hE P "_law_turning" 525 (vR 239),hE P "_law_asks" 537 (vR 246),hE P "_law_pairs" 543 (vR 251),hE P "_law_rule" 556 (vR 258),hE P "_law_label" 565 (vR 265),hE P "_law_branch" 575 (vR 272),hE P "_law_come" 585 (vR 279),hE P "_law_root" 595 (vR 286),hE P "_law_whole" 602 (vR 293),hE P "_law_copy" 608 (vR 298),hE P "_law_of_kind" 620 (vR 305),hE P "_law_wrong_at" 634 (vR 312),hE P "_law_right" 646 (vR 319),hE P "law" 652 (vR 324)] 48) #[]
noncomputable def K61.x23 (P:Params):Obj:=Obj.mk (Value.type "dict") none (Data.dict #[hE P "__module__" 196 (vS "turnery.errors" 187),hE P "__firstlineno__" 200 (vI 2 199),hE P "__static_attributes__" 201 (vR 22),hE P "__weakref__" 203 (vR 25),hE P "__doc__" 204 vN] 3) #[]
noncomputable def K61.x24 (P:Params):Obj:=Obj.mk (Value.type "type") none (Data.cls (ClassData.mk (Str.ofString "TurnError") [Value.type "ValueError"] [vR 24,Value.type "ValueError", Value.type "Exception", Value.type "BaseException", Value.type "object"] 23 (Str.ofString "TurnError") true [] [vR 37] false none false)) #[some (vR 15),none,some (vS "TurnError" 189),some (vS "TurnError" 197),some (Value.builtin "ValueError.__new__"),some (Value.bool true)]
noncomputable def K61.x25 (P:Params):Obj:=Obj.mk (Value.type "getset_descriptor") none (Data.fields #[vS "__weakref__" 202,vR 24,Value.builtin "ExceptionGroup.__weakref__", vN]) #[]
noncomputable def K61.x36 (P:Params):Obj:=Obj.mk (Value.type "dict") none (Data.dict #[hE P "__module__" 214 (vS "turnery.errors" 187),hE P "__firstlineno__" 218 (vI 4 217),hE P "__static_attributes__" 219 (vR 35),hE P "__doc__" 220 vN] 2) #[]
noncomputable def K61.x37 (P:Params):Obj:=Obj.mk (Value.type "type") none (Data.cls (ClassData.mk (Str.ofString "TooGreat") [vR 24] [vR 37,vR 24,Value.type "ValueError", Value.type "Exception", Value.type "BaseException", Value.type "object"] 36 (Str.ofString "TooGreat") true [] [] false none false)) #[some (vR 28),none,some (vS "TooGreat" 207),some (vS "TooGreat" 215),some (Value.builtin "ValueError.__new__"),some (Value.bool true)]
noncomputable def K61.x45 (P:Params):Obj:=oC #[vS "is_call" 225,vS "is_call" 226,cP 227,vI 7 0,vI 1 0,i0,i0,i3,vR 40,vT,i1,vR 41,vN,vR 42,vR 43,vR 44,vI 229 0,vI 7 0,cP 230]
noncomputable def K61.x46 (P:Params):Obj:=oF vF "is_call" "is_call" (top 4) 3 (vS "turnery.terms" 223) (vR 45)
noncomputable def K61.x49 (P:Params):Obj:=oT #[vS "tree" 237,vS "place" 238,vS "here" 239,vS "number" 240]
noncomputable def K61.x52 (P:Params):Obj:=oC #[vS "at" 234,vS "at" 235,cP 236,vI 10 0,vI 2 0,i0,i0,i3,vR 47,vT,i1,vR 48,vN,vR 49,vR 50,vR 51,vI 241 0,vI 10 0,cP 242]
noncomputable def K61.x53 (P:Params):Obj:=oF vF "at" "at" (top 6) 3 (vS "turnery.trees" 232) (vR 52)
noncomputable def K61.x56 (P:Params):Obj:=oT #[vS "tree" 247,vS "place" 248,vS "other" 249]
noncomputable def K61.x59 (P:Params):Obj:=oC #[vS "put_at" 244,vS "put_at" 245,cP 246,vI 17 0,vI 3 0,i0,i0,i3,vR 54,vT,i1,vR 55,vN,vR 56,vR 57,vR 58,vI 250 0,vI 17 0,cP 251]
noncomputable def K61.x60 (P:Params):Obj:=oF vF "put_at" "put_at" (top 7) 3 (vS "turnery.trees" 232) (vR 59)
noncomputable def K61.x66 (P:Params):Obj:=oC #[vS "has_number" 253,vS "has_number" 254,cP 255,vI 21 0,vI 2 0,i0,i0,i3,vR 61,vT,i1,vR 62,vN,vR 63,vR 64,vR 65,vI 258 0,vI 21 0,cP 259]
noncomputable def K61.x67 (P:Params):Obj:=oF vF "has_number" "has_number" (top 8) 3 (vS "turnery.trees" 232) (vR 66)
noncomputable def K61.x70 (P:Params):Obj:=oT #[vS "tree" 264,vS "place" 265,vS "other" 266,vS "number" 267,vS "branches" 268,vS "changed" 269]
noncomputable def K61.x73 (P:Params):Obj:=oC #[vS "put_below" 261,vS "put_below" 262,cP 263,vI 25 0,vI 3 0,i0,i0,i3,vR 68,vT,i1,vR 69,vN,vR 70,vR 71,vR 72,vI 270 0,vI 25 0,cP 271]
noncomputable def K61.x74 (P:Params):Obj:=oF vF "put_below" "put_below" (top 9) 3 (vS "turnery.trees" 232) (vR 73)
noncomputable def K61.x80 (P:Params):Obj:=oC #[vS "rows_of" 275,vS "rows_of" 276,cP 277,vI 33 0,vI 2 0,i0,i0,i3,vR 75,vT,i1,vR 76,vN,vR 77,vR 78,vR 79,vI 280 0,vI 33 0,cP 281]
noncomputable def K61.x81 (P:Params):Obj:=oF vF "rows_of" "rows_of" (top 11) 3 (vS "turnery.woods" 273) (vR 80)
noncomputable def K61.x84 (P:Params):Obj:=oT #[vS "wood" 286,vS "kind" 287,vS "name" 288,vS "branches" 289]
noncomputable def K61.x87 (P:Params):Obj:=oC #[vS "leaf_of" 283,vS "leaf_of" 284,cP 285,vI 35 0,vI 2 0,i0,i0,i3,vR 82,vT,i1,vR 83,vN,vR 84,vR 85,vR 86,vI 290 0,vI 35 0,cP 291]
noncomputable def K61.x88 (P:Params):Obj:=oF vF "leaf_of" "leaf_of" (top 12) 3 (vS "turnery.woods" 273) (vR 87)
noncomputable def K61.x92 (P:Params):Obj:=oC #[vS "leafy" 295,vS "leafy" 296,cP 297,vI 41 0,vI 4 0,i0,i0,i3,vR 89,vT,i1,vR 90,vN,vN,vN,vR 91,vI 298 0,vI 41 0,cP 299]
noncomputable def K61.x93 (P:Params):Obj:=oF vF "leafy" "leafy" (top 14) 3 (vS "turnery.ways" 293) (vR 92)
noncomputable def K61.x99 (P:Params):Obj:=oC #[vS "row_above" 301,vS "row_above" 302,cP 303,vI 43 0,vI 1 0,i0,i0,i3,vR 94,vT,i1,vR 95,vN,vR 96,vR 97,vR 98,vI 305 0,vI 43 0,cP 306]
noncomputable def K61.x100 (P:Params):Obj:=oF vF "row_above" "row_above" (top 15) 3 (vS "turnery.ways" 293) (vR 99)
noncomputable def K61.x103 (P:Params):Obj:=oT #[vS "wood" 311,vS "way" 312,vS "row" 313,vS "mark" 314,vS "tree" 315,vS "above" 316,vS "its_mark" 317,vS "branch" 318]
noncomputable def K61.x106 (P:Params):Obj:=oC #[vS "tree_on" 308,vS "tree_on" 309,cP 310,vI 45 0,vI 4 0,i0,i0,i3,vR 101,vT,i1,vR 102,vN,vR 103,vR 104,vR 105,vI 319 0,vI 45 0,cP 320]
noncomputable def K61.x107 (P:Params):Obj:=oF vF "tree_on" "tree_on" (top 16) 3 (vS "turnery.ways" 293) (vR 106)
noncomputable def K61.x110 (P:Params):Obj:=oT #[vS "turning" 329,vS "wood" 330,vS "demands" 331]
noncomputable def K61.x113 (P:Params):Obj:=oC #[vS "strays" 326,vS "strays" 327,cP 328,vI 52 0,vI 2 0,i0,i0,i3,vR 108,vT,i1,vR 109,vN,vR 110,vR 111,vR 112,vI 332 0,vI 52 0,cP 333]
noncomputable def K61.x114 (P:Params):Obj:=oF vF "strays" "strays" (top 19) 3 (19:) (vR 113)
noncomputable def K61.x120 (P:Params):Obj:=oC #[vS "levels_needed" 335,vS "levels_needed" 336,cP 337,vI 59 0,vI 1 0,i0,i0,i3,vR 115,vT,i1,vR 116,vN,vR 117,vR 118,vR 119,vI 340 0,vI 59 0,cP 341]
noncomputable def K61.x121 (P:Params):Obj:=oF vF "levels_needed" "levels_needed" (top 20) 3 (19:) (vR 120)
noncomputable def K61.x132 (P:Params):Obj:=oC #[vS "__init__" 355,vS "Demands.__init__" 356,cP 357,vI 64 0,vI 3 0,i0,i0,i3,vR 129,vT,i1,vR 130,vN,vN,vN,vR 131,vI 358 0,vI 64 0,cP 359]
noncomputable def K61.x133 (P:Params):Obj:=oF vF "__init__" "Demands.__init__" (L2.inClass (top 21) 0) 3 (19:) (vR 132)
noncomputable def K61.x136 (P:Params):Obj:=oT #[vS "self" 364,vS "demand" 365,vS "names" 366,vS "mode" 367,vS "row" 368,vS "rule" 369]
noncomputable def K61.x139 (P:Params):Obj:=oC #[vS "look_by" 361,vS "Demands.look_by" 362,cP 363,vI 76 0,vI 2 0,i0,i0,i3,vR 134,vT,i1,vR 135,vN,vR 136,vR 137,vR 138,vI 370 0,vI 76 0,cP 371]
noncomputable def K61.x140 (P:Params):Obj:=oF vF "look_by" "Demands.look_by" (L2.inClass (top 21) 1) 3 (19:) (vR 139)
noncomputable def K61.x143 (P:Params):Obj:=oT #[vS "self" 376,vS "spot" 377,vS "place" 378,vS "term" 379,vS "kind" 380,vS "kinds" 381,vS "number" 382,vS "part" 383]
noncomputable def K61.x146 (P:Params):Obj:=oC #[vS "look" 373,vS "Demands.look" 374,cP 375,vI 82 0,vI 5 0,i0,i0,i3,vR 141,vT,i1,vR 142,vN,vR 143,vR 144,vR 145,vI 384 0,vI 82 0,cP 385]
noncomputable def K61.x147 (P:Params):Obj:=oF vF "look" "Demands.look" (L2.inClass (top 21) 2) 3 (19:) (vR 146)
noncomputable def K61.x150 (P:Params):Obj:=oT #[vS "self" 390,vS "demand" 391,vS "step" 392]
noncomputable def K61.x153 (P:Params):Obj:=oC #[vS "meet_demand" 387,vS "Demands.meet_demand" 388,cP 389,vI 93 0,vI 3 0,i0,i0,i3,vR 148,vT,i1,vR 149,vN,vR 150,vR 151,vR 152,vI 393 0,vI 93 0,cP 394]
noncomputable def K61.x154 (P:Params):Obj:=oF vF "meet_demand" "Demands.meet_demand" (L2.inClass (top 21) 3) 3 (19:) (vR 153)
noncomputable def K61.x160 (P:Params):Obj:=oC #[vS "meet_fault" 396,vS "Demands.meet_fault" 397,cP 398,vI 98 0,vI 2 0,i0,i0,i3,vR 155,vT,i1,vR 156,vN,vR 157,vR 158,vR 159,vI 401 0,vI 98 0,cP 402]
noncomputable def K61.x161 (P:Params):Obj:=oF vF "meet_fault" "Demands.meet_fault" (L2.inClass (top 21) 4) 3 (19:) (vR 160)
noncomputable def K61.x164 (P:Params):Obj:=oT #[vS "self" 407,vS "spot" 408,vS "place" 409,vS "demand" 410,vS "way" 411,vS "step" 412]
noncomputable def K61.x167 (P:Params):Obj:=oC #[vS "tree_and_place" 404,vS "Demands.tree_and_place" 405,cP 406,vI 102 0,vI 1 0,i0,i0,i3,vR 162,vT,i1,vR 163,vN,vR 164,vR 165,vR 166,vI 413 0,vI 102 0,cP 414]
noncomputable def K61.x168 (P:Params):Obj:=oF vF "tree_and_place" "Demands.tree_and_place" (L2.inClass (top 21) 5) 3 (19:) (vR 167)
noncomputable def K61.x169 (P:Params):Obj:=oT #[vS "fault" 416,vS "kinds_below" 417,vS "steps" 418,vS "turning" 419,vS "waiting" 420]
noncomputable def K61.x170 (P:Params):Obj:=Obj.mk (Value.type "dict") none (Data.dict #[hE P "__module__" 350 (19:),hE P "__firstlineno__" 354 (vI 62 353),hE P "__init__" 360 (vR 133),hE P "look_by" 372 (vR 140),hE P "look" 386 (vR 147),hE P "meet_demand" 395 (vR 154),hE P "meet_fault" 403 (vR 161),hE P "tree_and_place" 415 (vR 168),hE P "__static_attributes__" 421 (vR 169),hE P "__dict__" 423 (vR 172),hE P "__weakref__" 425 (vR 173),hE P "__doc__" 426 vN] 4) #[]
noncomputable def K61.x171 (P:Params):Obj:=Obj.mk (Value.type "type") none (Data.cls (ClassData.mk (Str.ofString "Demands") [Value.type "object"] [vR 171,Value.type "object"] 170 (Str.ofString "Demands") true [] [] false none false)) #[none,none,some (vS "Demands" 343),some (vS "Demands" 351),some (Value.builtin "object.__new__"),some (Value.bool true)]
noncomputable def K61.x172 (P:Params):Obj:=Obj.mk (Value.type "getset_descriptor") none (Data.fields #[vS "__dict__" 422,vR 171,Value.builtin "function.__dict__", Value.builtin "function.__dict__#set"]) #[]
noncomputable def K61.x173 (P:Params):Obj:=Obj.mk (Value.type "getset_descriptor") none (Data.fields #[vS "__weakref__" 424,vR 171,Value.builtin "ExceptionGroup.__weakref__", vN]) #[]
noncomputable def K61.x178 (P:Params):Obj:=oT #[vS "_law_script" 434,vS "_law_k" 435]
noncomputable def K61.x181 (P:Params):Obj:=oC #[vS "_law_cell_at" 431,vS "_law_cell_at" 432,cP 433,vI 114 0,vI 2 0,i0,i0,i3,vR 176,vT,i1,vR 177,vN,vR 178,vR 179,vR 180,vI 436 0,vI 114 0,cP 437]
noncomputable def K61.x182 (P:Params):Obj:=oF vF "_law_cell_at" "_law_cell_at" (top 23) 3 (2:) (vR 181)
noncomputable def K61.x185 (P:Params):Obj:=oT #[vS "_law_cell" 442,vS "_law_k" 443,vS "_law_number" 444]
noncomputable def K61.x188 (P:Params):Obj:=oC #[vS "_law_mixed" 439,vS "_law_mixed" 440,cP 441,vI 118 0,vI 2 0,i0,i0,i3,vR 183,vT,i1,vR 184,vN,vR 185,vR 186,vR 187,vI 445 0,vI 118 0,cP 446]
noncomputable def K61.x189 (P:Params):Obj:=oF vF "_law_mixed" "_law_mixed" (top 24) 3 (2:) (vR 188)
noncomputable def K61.x193 (P:Params):Obj:=oC #[vS "_law_names" 448,vS "_law_names" 449,cP 450,vI 122 0,vI 1 0,i0,i0,i3,vR 190,vT,i1,vR 191,vN,vN,vN,vR 192,vI 451 0,vI 122 0,cP 452]
noncomputable def K61.x194 (P:Params):Obj:=oF vF "_law_names" "_law_names" (top 25) 3 (2:) (vR 193)
noncomputable def K61.x200 (P:Params):Obj:=oC #[vS "_law_great" 454,vS "_law_great" 455,cP 456,vI 135 0,vI 1 0,i0,i0,i3,vR 195,vT,i1,vR 196,vN,vR 197,vR 198,vR 199,vI 458 0,vI 135 0,cP 459]
noncomputable def K61.x201 (P:Params):Obj:=oF vF "_law_great" "_law_great" (top 26) 3 (2:) (vR 200)
noncomputable def K61.x205 (P:Params):Obj:=oC #[vS "_law_wood" 461,vS "_law_wood" 462,cP 463,vI 137 0,vI 2 0,i0,i0,i3,vR 202,vT,i1,vR 203,vN,vN,vN,vR 204,vI 464 0,vI 137 0,cP 465]
noncomputable def K61.x206 (P:Params):Obj:=oF vF "_law_wood" "_law_wood" (top 27) 3 (2:) (vR 205)
noncomputable def K61.x209 (P:Params):Obj:=oT #[vS "_law_wood_here" 470,vS "_law_kind" 471,vS "_law_name" 472,vS "_law_row_here" 473]
noncomputable def K61.x212 (P:Params):Obj:=oC #[vS "_law_row" 467,vS "_law_row" 468,cP 469,vI 150 0,vI 3 0,i0,i0,i3,vR 207,vT,i1,vR 208,vN,vR 209,vR 210,vR 211,vI 474 0,vI 150 0,cP 475]
noncomputable def K61.x213 (P:Params):Obj:=oF vF "_law_row" "_law_row" (top 28) 3 (2:) (vR 212)
noncomputable def K61.x216 (P:Params):Obj:=oT #[vS "_law_wood_here" 480,vS "_law_kind" 481,vS "_law_label_here" 482,vS "_law_row_here" 483]
noncomputable def K61.x219 (P:Params):Obj:=oC #[vS "_law_fits" 477,vS "_law_fits" 478,cP 479,vI 155 0,vI 3 0,i0,i0,i3,vR 214,vT,i1,vR 215,vN,vR 216,vR 217,vR 218,vI 484 0,vI 155 0,cP 485]
noncomputable def K61.x220 (P:Params):Obj:=oF vF "_law_fits" "_law_fits" (top 29) 3 (2:) (vR 219)
noncomputable def K61.x224 (P:Params):Obj:=oC #[vS "_law_loose" 487,vS "_law_loose" 488,cP 489,vI 158 0,vI 8 0,i0,i0,i3,vR 221,vT,i1,vR 222,vN,vN,vN,vR 223,vI 490 0,vI 158 0,cP 491]
noncomputable def K61.x225 (P:Params):Obj:=oF vF "_law_loose" "_law_loose" (top 30) 3 (2:) (vR 224)
noncomputable def K61.x228 (P:Params):Obj:=oT #[vS "_law_branches" 496,vS "_law_owners" 497,vS "_law_calls_here" 498,vS "_law_branch_here" 499,vS "_law_mode" 500]
noncomputable def K61.x231 (P:Params):Obj:=oC #[vS "_law_calls" 493,vS "_law_calls" 494,cP 495,vI 178 0,vI 2 0,i0,i0,i3,vR 226,vT,i1,vR 227,vN,vR 228,vR 229,vR 230,vI 501 0,vI 178 0,cP 502]
noncomputable def K61.x232 (P:Params):Obj:=oF vF "_law_calls" "_law_calls" (top 31) 3 (2:) (vR 231)
noncomputable def K61.x235 (P:Params):Obj:=oT #[vS "_law_script" 507,vS "_law_wood_here" 508,vS "_law_out" 509,vS "_law_names_here" 510,vS "_law_number" 511,vS "_law_owners" 512,vS "_law_i" 513,vS "_law_some" 514,vS "_law_modes" 515,vS "_law_used" 516,vS "_law_kind" 517,vS "_law_other" 518,vS "_law_rules" 519,vS "_law_row_here" 520,vS "_law_calls_here" 521,vS "_law_start" 522]
noncomputable def K61.x238 (P:Params):Obj:=oC #[vS "_law_turning" 504,vS "_law_turning" 505,cP 506,vI 185 0,vI 4 0,i0,i0,i3,vR 233,vT,i1,vR 234,vN,vR 235,vR 236,vR 237,vI 523 0,vI 185 0,cP 524]
noncomputable def K61.x239 (P:Params):Obj:=oF vF "_law_turning" "_law_turning" (top 32) 3 (2:) (vR 238)
noncomputable def K61.x242 (P:Params):Obj:=oT #[vS "_law_wood_here" 529,vS "_law_term" 530,vS "_law_kind" 531,vS "_law_found" 532,vS "_law_branch_here" 533,vS "_law_part" 534]
noncomputable def K61.x245 (P:Params):Obj:=oC #[vS "_law_asks" 526,vS "_law_asks" 527,cP 528,vI 203 0,vI 3 0,i0,i0,i3,vR 240,vT,i1,vR 241,vN,vR 242,vR 243,vR 244,vI 535 0,vI 203 0,cP 536]
noncomputable def K61.x246 (P:Params):Obj:=oF vF "_law_asks" "_law_asks" (top 33) 3 (2:) (vR 245)
noncomputable def K61.x250 (P:Params):Obj:=oC #[vS "_law_pairs" 538,vS "_law_pairs" 539,cP 540,vI 212 0,vI 2 0,i0,i0,i3,vR 247,vT,i1,vR 248,vN,vN,vN,vR 249,vI 541 0,vI 212 0,cP 542]
noncomputable def K61.x251 (P:Params):Obj:=oF vF "_law_pairs" "_law_pairs" (top 34) 3 (2:) (vR 250)
noncomputable def K61.x254 (P:Params):Obj:=oT #[vS "_law_turning_here" 547,vS "_law_mode" 548,vS "_law_name" 549,vS "_law_kind" 550,vS "_law_rules" 551,vS "_law_row_here" 552,vS "_law_rule_here" 553]
noncomputable def K61.x257 (P:Params):Obj:=oC #[vS "_law_rule" 544,vS "_law_rule" 545,cP 546,vI 226 0,vI 3 0,i0,i0,i3,vR 252,vT,i1,vR 253,vN,vR 254,vR 255,vR 256,vI 554 0,vI 226 0,cP 555]
noncomputable def K61.x258 (P:Params):Obj:=oF vF "_law_rule" "_law_rule" (top 35) 3 (2:) (vR 257)
noncomputable def K61.x261 (P:Params):Obj:=oT #[vS "_law_i" 560,vS "_law_node" 561,vS "_law_mark" 562]
noncomputable def K61.x264 (P:Params):Obj:=oC #[vS "_law_label" 557,vS "_law_label" 558,cP 559,vI 232 0,vI 2 0,i0,i0,i3,vR 259,vT,i1,vR 260,vN,vR 261,vR 262,vR 263,vI 563 0,vI 232 0,cP 564]
noncomputable def K61.x265 (P:Params):Obj:=oF vF "_law_label" "_law_label" (top 36) 3 (2:) (vR 264)
noncomputable def K61.x268 (P:Params):Obj:=oT #[vS "_law_chain" 569,vS "_law_i" 570,vS "_law_node" 571,vS "_law_k" 572]
noncomputable def K61.x271 (P:Params):Obj:=oC #[vS "_law_branch" 566,vS "_law_branch" 567,cP 568,vI 237 0,vI 4 0,i0,i0,i3,vR 266,vT,i1,vR 267,vN,vR 268,vR 269,vR 270,vI 573 0,vI 237 0,cP 574]
noncomputable def K61.x272 (P:Params):Obj:=oF vF "_law_branch" "_law_branch" (top 37) 3 (2:) (vR 271)
noncomputable def K61.x275 (P:Params):Obj:=oT #[vS "_law_chain" 579,vS "_law_i" 580,vS "_law_term" 581,vS "_law_read" 582]
noncomputable def K61.x278 (P:Params):Obj:=oC #[vS "_law_come" 576,vS "_law_come" 577,cP 578,vI 241 0,vI 4 0,i0,i0,i3,vR 273,vT,i1,vR 274,vN,vR 275,vR 276,vR 277,vI 583 0,vI 241 0,cP 584]
noncomputable def K61.x279 (P:Params):Obj:=oF vF "_law_come" "_law_come" (top 38) 3 (2:) (vR 278)
noncomputable def K61.x282 (P:Params):Obj:=oT #[vS "_law_chain" 589,vS "_law_tree" 590,vS "_law_read" 591,vS "_law_i" 592]
noncomputable def K61.x285 (P:Params):Obj:=oC #[vS "_law_root" 586,vS "_law_root" 587,cP 588,vI 246 0,vI 2 0,i0,i0,i3,vR 280,vT,i1,vR 281,vN,vR 282,vR 283,vR 284,vI 593 0,vI 246 0,cP 594]
noncomputable def K61.x286 (P:Params):Obj:=oF vF "_law_root" "_law_root" (top 39) 3 (2:) (vR 285)
noncomputable def K61.x292 (P:Params):Obj:=oC #[vS "_law_whole" 596,vS "_law_whole" 597,cP 598,vI 251 0,vI 1 0,i0,i0,i3,vR 287,vT,i1,vR 288,vN,vR 289,vR 290,vR 291,vI 600 0,vI 251 0,cP 601]
noncomputable def K61.x293 (P:Params):Obj:=oF vF "_law_whole" "_law_whole" (top 40) 3 (2:) (vR 292)
noncomputable def K61.x297 (P:Params):Obj:=oC #[vS "_law_copy" 603,vS "_law_copy" 604,cP 605,vI 253 0,vI 1 0,i0,i0,i3,vR 294,vT,i1,vR 295,vN,vN,vN,vR 296,vI 606 0,vI 253 0,cP 607]
noncomputable def K61.x298 (P:Params):Obj:=oF vF "_law_copy" "_law_copy" (top 41) 3 (2:) (vR 297)
noncomputable def K61.x301 (P:Params):Obj:=oT #[vS "_law_wood_here" 612,vS "_law_kind" 613,vS "_law_tree" 614,vS "_law_deep" 615,vS "_law_branch_here" 616,vS "_law_inner" 617]
noncomputable def K61.x304 (P:Params):Obj:=oC #[vS "_law_of_kind" 609,vS "_law_of_kind" 610,cP 611,vI 256 0,vI 4 0,i0,i0,i3,vR 299,vT,i1,vR 300,vN,vR 301,vR 302,vR 303,vI 618 0,vI 256 0,cP 619]
noncomputable def K61.x305 (P:Params):Obj:=oF vF "_law_of_kind" "_law_of_kind" (top 42) 3 (2:) (vR 304)
noncomputable def K61.x308 (P:Params):Obj:=oT #[vS "_law_turning_here" 624,vS "_law_out" 625,vS "_law_tree" 626,vS "_law_found" 627,vS "_law_kind" 628,vS "_law_node" 629,vS "_law_k" 630,vS "_law_label_here" 631]
noncomputable def K61.x311 (P:Params):Obj:=oC #[vS "_law_wrong_at" 621,vS "_law_wrong_at" 622,cP 623,vI 267 0,vI 4 0,i0,i0,i3,vR 306,vT,i1,vR 307,vN,vR 308,vR 309,vR 310,vI 632 0,vI 267 0,cP 633]
noncomputable def K61.x312 (P:Params):Obj:=oF vF "_law_wrong_at" "_law_wrong_at" (top 43) 3 (2:) (vR 311)
noncomputable def K61.x315 (P:Params):Obj:=oT #[vS "_law_turning_here" 638,vS "_law_out" 639,vS "_law_known" 640,vS "_law_pair" 641,vS "_law_row_here" 642,vS "_law_asks_here" 643]
noncomputable def K61.x318 (P:Params):Obj:=oC #[vS "_law_right" 635,vS "_law_right" 636,cP 637,vI 279 0,vI 2 0,i0,i0,i3,vR 313,vT,i1,vR 314,vN,vR 315,vR 316,vR 317,vI 644 0,vI 279 0,cP 645]
noncomputable def K61.x319 (P:Params):Obj:=oF vF "_law_right" "_law_right" (top 44) 3 (2:) (vR 318)
noncomputable def K61.x323 (P:Params):Obj:=oC #[vS "law" 647,vS "law" 648,cP 649,vI 288 0,vI 1 0,i0,i0,i3,vR 320,vT,i1,vR 321,vN,vN,vN,vR 322,vI 650 0,vI 288 0,cP 651]
noncomputable def K61.x324 (P:Params):Obj:=oF vF "law" "law" (top 45) 3 (2:) (vR 323)
noncomputable def K61.hp:Params→PySem.W.Frag:=fun P=>[(2,Obj.mk vN none (Data.dict #[]) #[]),(3,x3 P),(15,oT #[Value.type "ValueError"]),(22,oT #[]),(23,x23 P),(24,x24 P),(25,x25 P),(28,oT #[vR 24]),(35,oT #[]),(36,x36 P),(37,x37 P),(40,oT #[]),(42,oT #[vS "term" 228]),(43,oT #[]),(45,x45 P),(46,x46 P),(47,oT #[]),(49,x49 P),(50,oT #[]),(52,x52 P),(53,x53 P),(54,oT #[]),(56,x56 P),(57,oT #[]),(59,x59 P),(60,x60 P),(61,oT #[]),(63,oT #[vS "branches" 256,vS "number" 257]),(64,oT #[]),(66,x66 P),(67,x67 P),(68,oT #[]),(70,x70 P),(71,oT #[]),(73,x73 P),(74,x74 P),(75,oT #[]),(77,oT #[vS "wood" 278,vS "kind" 279]),(78,oT #[]),(80,x80 P),(81,x81 P),(82,oT #[]),(84,x84 P),(85,oT #[]),(87,x87 P),(88,x88 P),(89,oT #[]),(92,x92 P),(93,x93 P),(94,oT #[]),(96,oT #[vS "wood" 304]),(97,oT #[]),(99,x99 P),(100,x100 P),(101,oT #[]),(103,x103 P),(104,oT #[]),(106,x106 P),(107,x107 P),(108,oT #[]),(110,x110 P),(111,oT #[]),(113,x113 P),(114,x114 P),(115,oT #[]),(117,oT #[vS "fault" 338,vS "spot" 339]),(118,oT #[]),(120,x120 P),(121,x121 P),(129,oT #[]),(132,x132 P),(133,x133 P),(134,oT #[]),(136,x136 P),(137,oT #[]),(139,x139 P),(140,x140 P),(141,oT #[]),(143,x143 P),(144,oT #[]),(146,x146 P),(147,x147 P),(148,oT #[]),(150,x150 P),(151,oT #[]),(153,x153 P),(154,x154 P),(155,oT #[]),(157,oT #[vS "self" 399,vS "fault" 400]),(158,oT #[]),(160,x160 P),(161,x161 P),(162,oT #[]),(164,x164 P),(165,oT #[]),(167,x167 P),(168,x168 P),(169,x169 P),(170,x170 P),(171,x171 P),(172,x172 P),(173,x173 P),(176,oT #[]),(178,x178 P),(179,oT #[]),(181,x181 P),(182,x182 P),(183,oT #[]),(185,x185 P),(186,oT #[]),(188,x188 P),(189,x189 P),(190,oT #[]),(193,x193 P),(194,x194 P),(195,oT #[]),(197,oT #[vS "_law_cell" 457]),(198,oT #[]),(200,x200 P),(201,x201 P),(202,oT #[]),(205,x205 P),(206,x206 P),(207,oT #[]),(209,x209 P),(210,oT #[]),(212,x212 P),(213,x213 P),(214,oT #[]),(216,x216 P),(217,oT #[]),(219,x219 P),(220,x220 P),(221,oT #[]),(224,x224 P),(225,x225 P),(226,oT #[]),(228,x228 P),(229,oT #[]),(231,x231 P),(232,x232 P),(233,oT #[]),(235,x235 P),(236,oT #[]),(238,x238 P),(239,x239 P),(240,oT #[]),(242,x242 P),(243,oT #[]),(245,x245 P),(246,x246 P),(247,oT #[]),(250,x250 P),(251,x251 P),(252,oT #[]),(254,x254 P),(255,oT #[]),(257,x257 P),(258,x258 P),(259,oT #[]),(261,x261 P),(262,oT #[]),(264,x264 P),(265,x265 P),(266,oT #[]),(268,x268 P),(269,oT #[]),(271,x271 P),(272,x272 P),(273,oT #[]),(275,x275 P),(276,oT #[]),(278,x278 P),(279,x279 P),(280,oT #[]),(282,x282 P),(283,oT #[]),(285,x285 P),(286,x286 P),(287,oT #[]),(289,oT #[vS "_law_found" 599]),(290,oT #[]),(292,x292 P),(293,x293 P),(294,oT #[]),(297,x297 P),(298,x298 P),(299,oT #[]),(301,x301 P),(302,oT #[]),(304,x304 P),(305,x305 P),(306,oT #[]),(308,x308 P),(309,oT #[]),(311,x311 P),(312,x312 P),(313,oT #[]),(315,x315 P),(316,oT #[]),(318,x318 P),(319,x319 P),(320,oT #[]),(323,x323 P),(324,x324 P)]
end
noncomputable def PySem.W.Fast.tw8243928963930688573:PySem.Params→PySem.W.Frag:=K61.hp
theorem PySem.W.Fast.te8243928963930688573:K61.hp=PySem.W.Fast.tw8243928963930688573:=rfl
namespace PySem.W.Fast
open PySem K61
noncomputable def tw12927377005349118621:Params→Obj:=fun P=>oF vN "_law_asks" "_law_asks" (top 33) 0 vN vN
theorem te12927377005349118621:tw12927377005349118621=tw12927377005349118621:=rfl
noncomputable def tw4125265400086248524:Params→Obj:=fun P=>oF vF "is_call" "is_call" (top 4) 3 (vS "turnery.terms" 223) (vR 45)
theorem te4125265400086248524:tw4125265400086248524=tw4125265400086248524:=rfl
noncomputable def tw9208934554544585249:Params→Obj:=fun P=>oF vF "_law_turning" "_law_turning" (top 32) 3 (2:) (vR 238)
theorem te9208934554544585249:tw9208934554544585249=tw9208934554544585249:=rfl
noncomputable def tw3006505399014785346:Params→Obj:=fun P=>oF vN "meet_demand" "Demands.meet_demand" (L2.inClass (top 21) 3) 0 vN vN
theorem te3006505399014785346:tw3006505399014785346=tw3006505399014785346:=rfl
noncomputable def tw6138998920885105110:Params→Obj:=fun P=>oF vN "_law_row" "_law_row" (top 28) 0 vN vN
theorem te6138998920885105110:tw6138998920885105110=tw6138998920885105110:=rfl
noncomputable def tw13499250230607407025:Params→Obj:=fun P=>oF vN "_law_great" "_law_great" (top 26) 0 vN vN
theorem te13499250230607407025:tw13499250230607407025=tw13499250230607407025:=rfl
noncomputable def tw16423590501601912929:Params→Obj:=fun P=>oF vN "_law_of_kind" "_law_of_kind" (top 42) 0 vN vN
theorem te16423590501601912929:tw16423590501601912929=tw16423590501601912929:=rfl
noncomputable def tw16381456105583037037:Params→Obj:=fun P=>oF vF "put_at" "put_at" (top 7) 3 (vS "turnery.trees" 232) (vR 59)
theorem te16381456105583037037:tw16381456105583037037=tw16381456105583037037:=rfl
noncomputable def tw3262326915681017000:Params→Obj:=fun P=>oF vN "_law_label" "_law_label" (top 36) 0 vN vN
theorem te3262326915681017000:tw3262326915681017000=tw3262326915681017000:=rfl
noncomputable def tw18140559741413887724:Params→Obj:=fun P=>oF vF "look_by" "Demands.look_by" (L2.inClass (top 21) 1) 3 (19:) (vR 139)
theorem te18140559741413887724:tw18140559741413887724=tw18140559741413887724:=rfl
noncomputable def tw16812552367939373043:Params→Obj:=fun P=>oF vF "_law_mixed" "_law_mixed" (top 24) 3 (2:) (vR 188)
theorem te16812552367939373043:tw16812552367939373043=tw16812552367939373043:=rfl
noncomputable def tw17543642801750152738:Params→Obj:=fun P=>oF vF "row_above" "row_above" (top 15) 3 (vS "turnery.ways" 293) (vR 99)
theorem te17543642801750152738:tw17543642801750152738=tw17543642801750152738:=rfl
noncomputable def tw15943675686244364377:Params→Obj:=fun P=>oF vF "_law_wood" "_law_wood" (top 27) 3 (2:) (vR 205)
theorem te15943675686244364377:tw15943675686244364377=tw15943675686244364377:=rfl
noncomputable def tw15169651470654332370:Params→Obj:=fun P=>oF vF "look" "Demands.look" (L2.inClass (top 21) 2) 3 (19:) (vR 146)
theorem te15169651470654332370:tw15169651470654332370=tw15169651470654332370:=rfl
noncomputable def tw15091731815297414185:Params→Obj:=fun P=>oF vN "_law_wrong_at" "_law_wrong_at" (top 43) 0 vN vN
theorem te15091731815297414185:tw15091731815297414185=tw15091731815297414185:=rfl
noncomputable def tw14094662701964136616:Params→Obj:=fun P=>oF vF "_law_row" "_law_row" (top 28) 3 (2:) (vR 212)
theorem te14094662701964136616:tw14094662701964136616=tw14094662701964136616:=rfl
noncomputable def tw8847054013782594185:Params→Obj:=fun P=>oF vN "look" "Demands.look" (L2.inClass (top 21) 2) 0 vN vN
theorem te8847054013782594185:tw8847054013782594185=tw8847054013782594185:=rfl
noncomputable def tw11468399443215955375:Params→Obj:=fun P=>oF vN "has_number" "has_number" (top 8) 0 vN vN
theorem te11468399443215955375:tw11468399443215955375=tw11468399443215955375:=rfl
noncomputable def tw17265101672786567524:Params→Obj:=fun P=>oF vF "_law_asks" "_law_asks" (top 33) 3 (2:) (vR 245)
theorem te17265101672786567524:tw17265101672786567524=tw17265101672786567524:=rfl
noncomputable def tw9045726931061521756:Params→Obj:=fun P=>oF vN "meet_fault" "Demands.meet_fault" (L2.inClass (top 21) 4) 0 vN vN
theorem te9045726931061521756:tw9045726931061521756=tw9045726931061521756:=rfl
noncomputable def tw10916549058359999315:Params→Obj:=fun P=>oF vN "look_by" "Demands.look_by" (L2.inClass (top 21) 1) 0 vN vN
theorem te10916549058359999315:tw10916549058359999315=tw10916549058359999315:=rfl
noncomputable def tw8849014855133970651:Params→Obj:=fun P=>oF vN "put_below" "put_below" (top 9) 0 vN vN
theorem te8849014855133970651:tw8849014855133970651=tw8849014855133970651:=rfl
noncomputable def tw13877292192932549768:Params→Obj:=fun P=>oF vN "_law_pairs" "_law_pairs" (top 34) 0 vN vN
theorem te13877292192932549768:tw13877292192932549768=tw13877292192932549768:=rfl
noncomputable def tw2271718539220743244:Params→Obj:=fun P=>oF vN "_law_names" "_law_names" (top 25) 0 vN vN
theorem te2271718539220743244:tw2271718539220743244=tw2271718539220743244:=rfl
noncomputable def tw7264370155952526350:Params→Obj:=fun P=>oF vF "_law_label" "_law_label" (top 36) 3 (2:) (vR 264)
theorem te7264370155952526350:tw7264370155952526350=tw7264370155952526350:=rfl
noncomputable def tw5960594544027562779:Params→Obj:=fun P=>oF vF "at" "at" (top 6) 3 (vS "turnery.trees" 232) (vR 52)
theorem te5960594544027562779:tw5960594544027562779=tw5960594544027562779:=rfl
noncomputable def tw10703588052815658438:Params→Obj:=fun P=>oF vF "levels_needed" "levels_needed" (top 20) 3 (19:) (vR 120)
theorem te10703588052815658438:tw10703588052815658438=tw10703588052815658438:=rfl
noncomputable def tw7147297456662771004:Params→Obj:=fun P=>oF vN "_law_root" "_law_root" (top 39) 0 vN vN
theorem te7147297456662771004:tw7147297456662771004=tw7147297456662771004:=rfl
noncomputable def tw18236600078236596577:Params→Obj:=fun P=>oF vN "_law_mixed" "_law_mixed" (top 24) 0 vN vN
theorem te18236600078236596577:tw18236600078236596577=tw18236600078236596577:=rfl
noncomputable def tw12514581655243799257:Params→Obj:=fun P=>oF vF "_law_branch" "_law_branch" (top 37) 3 (2:) (vR 271)
theorem te12514581655243799257:tw12514581655243799257=tw12514581655243799257:=rfl
noncomputable def tw18040823411468860048:Params→Obj:=fun P=>oF vN "put_at" "put_at" (top 7) 0 vN vN
theorem te18040823411468860048:tw18040823411468860048=tw18040823411468860048:=rfl
noncomputable def tw8125691623897780522:Params→Obj:=fun P=>oF vF "meet_fault" "Demands.meet_fault" (L2.inClass (top 21) 4) 3 (19:) (vR 160)
theorem te8125691623897780522:tw8125691623897780522=tw8125691623897780522:=rfl
noncomputable def tw16424122457260050823:Params→Obj:=fun P=>oF vN "_law_fits" "_law_fits" (top 29) 0 vN vN
theorem te16424122457260050823:tw16424122457260050823=tw16424122457260050823:=rfl
noncomputable def tw17135384053147129826:Params→Obj:=fun P=>oF vN "__init__" "Demands.__init__" (L2.inClass (top 21) 0) 0 vN vN
theorem te17135384053147129826:tw17135384053147129826=tw17135384053147129826:=rfl
noncomputable def tw7365078940240993006:Params→Obj:=fun P=>oF vF "_law_pairs" "_law_pairs" (top 34) 3 (2:) (vR 250)
theorem te7365078940240993006:tw7365078940240993006=tw7365078940240993006:=rfl
noncomputable def tw13294014701173512503:Params→Obj:=fun P=>oF vN "_law_loose" "_law_loose" (top 30) 0 vN vN
theorem te13294014701173512503:tw13294014701173512503=tw13294014701173512503:=rfl
noncomputable def tw15445480318560893899:Params→Obj:=fun P=>oF vF "_law_rule" "_law_rule" (top 35) 3 (2:) (vR 257)
theorem te15445480318560893899:tw15445480318560893899=tw15445480318560893899:=rfl
noncomputable def tw14465672053138723145:Params→Obj:=fun P=>oF vF "_law_great" "_law_great" (top 26) 3 (2:) (vR 200)
theorem te14465672053138723145:tw14465672053138723145=tw14465672053138723145:=rfl
noncomputable def tw5007118928800472171:Params→Obj:=fun P=>oF vN "is_call" "is_call" (top 4) 0 vN vN
theorem te5007118928800472171:tw5007118928800472171=tw5007118928800472171:=rfl
noncomputable def tw9786537242318337337:Params→Obj:=fun P=>oF vF "tree_on" "tree_on" (top 16) 3 (vS "turnery.ways" 293) (vR 106)
theorem te9786537242318337337:tw9786537242318337337=tw9786537242318337337:=rfl
noncomputable def tw1708301180359971433:Params→Obj:=fun P=>oF vN "at" "at" (top 6) 0 vN vN
theorem te1708301180359971433:tw1708301180359971433=tw1708301180359971433:=rfl
noncomputable def tw3807197385084074672:Params→Obj:=fun P=>oF vF "rows_of" "rows_of" (top 11) 3 (vS "turnery.woods" 273) (vR 80)
theorem te3807197385084074672:tw3807197385084074672=tw3807197385084074672:=rfl
noncomputable def tw11100791860786394614:Params→Obj:=fun P=>oF vN "_law_come" "_law_come" (top 38) 0 vN vN
theorem te11100791860786394614:tw11100791860786394614=tw11100791860786394614:=rfl
noncomputable def tw7304342791448486976:Params→Obj:=fun P=>oF vN "leaf_of" "leaf_of" (top 12) 0 vN vN
theorem te7304342791448486976:tw7304342791448486976=tw7304342791448486976:=rfl
noncomputable def tw7812382597975690555:Params→Obj:=fun P=>oF vF "strays" "strays" (top 19) 3 (19:) (vR 113)
theorem te7812382597975690555:tw7812382597975690555=tw7812382597975690555:=rfl
noncomputable def tw878578648266182925:Params→Obj:=fun P=>oF vF "has_number" "has_number" (top 8) 3 (vS "turnery.trees" 232) (vR 66)
theorem te878578648266182925:tw878578648266182925=tw878578648266182925:=rfl
noncomputable def tw4814098508538618281:Params→Obj:=fun P=>oF vN "rows_of" "rows_of" (top 11) 0 vN vN
theorem te4814098508538618281:tw4814098508538618281=tw4814098508538618281:=rfl
noncomputable def tw10632599406729903101:Params→Obj:=fun P=>oF vN "_law_branch" "_law_branch" (top 37) 0 vN vN
theorem te10632599406729903101:tw10632599406729903101=tw10632599406729903101:=rfl
noncomputable def tw10766613860700982417:Params→Obj:=fun P=>oF vF "put_below" "put_below" (top 9) 3 (vS "turnery.trees" 232) (vR 73)
theorem te10766613860700982417:tw10766613860700982417=tw10766613860700982417:=rfl
noncomputable def tw12936891130679742946:Params→Obj:=fun P=>oF vF "_law_cell_at" "_law_cell_at" (top 23) 3 (2:) (vR 181)
theorem te12936891130679742946:tw12936891130679742946=tw12936891130679742946:=rfl
noncomputable def tw16672463274258443249:Params→Obj:=fun P=>oF vF "_law_root" "_law_root" (top 39) 3 (2:) (vR 285)
theorem te16672463274258443249:tw16672463274258443249=tw16672463274258443249:=rfl
noncomputable def tw3607648967994101493:Params→Obj:=fun P=>oF vN "_law_right" "_law_right" (top 44) 0 vN vN
theorem te3607648967994101493:tw3607648967994101493=tw3607648967994101493:=rfl
noncomputable def tw15873110870582941237:Params→Obj:=fun P=>oF vN "tree_on" "tree_on" (top 16) 0 vN vN
theorem te15873110870582941237:tw15873110870582941237=tw15873110870582941237:=rfl
noncomputable def tw12867871328509676311:Params→Obj:=fun P=>oF vN "_law_wood" "_law_wood" (top 27) 0 vN vN
theorem te12867871328509676311:tw12867871328509676311=tw12867871328509676311:=rfl
noncomputable def tw14260746608999914205:Params→Obj:=fun P=>oF vF "tree_and_place" "Demands.tree_and_place" (L2.inClass (top 21) 5) 3 (19:) (vR 167)
theorem te14260746608999914205:tw14260746608999914205=tw14260746608999914205:=rfl
noncomputable def tw14500950711151496764:Params→Obj:=fun P=>oF vN "_law_rule" "_law_rule" (top 35) 0 vN vN
theorem te14500950711151496764:tw14500950711151496764=tw14500950711151496764:=rfl
noncomputable def tw17886580917783478977:Params→Obj:=fun P=>oF vF "_law_come" "_law_come" (top 38) 3 (2:) (vR 278)
theorem te17886580917783478977:tw17886580917783478977=tw17886580917783478977:=rfl
noncomputable def tw13732896370621261184:Params→Obj:=fun P=>oF vF "leafy" "leafy" (top 14) 3 (vS "turnery.ways" 293) (vR 92)
theorem te13732896370621261184:tw13732896370621261184=tw13732896370621261184:=rfl
noncomputable def tw2064126132857608264:Params→Obj:=fun P=>oF vF "_law_calls" "_law_calls" (top 31) 3 (2:) (vR 231)
theorem te2064126132857608264:tw2064126132857608264=tw2064126132857608264:=rfl
noncomputable def tw5471915696941982912:Params→Obj:=fun P=>oF vN "strays" "strays" (top 19) 0 vN vN
theorem te5471915696941982912:tw5471915696941982912=tw5471915696941982912:=rfl
noncomputable def tw9309382527617419083:Params→Obj:=fun P=>oF vN "_law_copy" "_law_copy" (top 41) 0 vN vN
theorem te9309382527617419083:tw9309382527617419083=tw9309382527617419083:=rfl
noncomputable def tw1405003958921884825:Params→Obj:=fun P=>oF vF "law" "law" (top 45) 3 (2:) (vR 323)
theorem te1405003958921884825:tw1405003958921884825=tw1405003958921884825:=rfl
noncomputable def tw11680701375863569841:Params→Obj:=fun P=>oF vF "_law_loose" "_law_loose" (top 30) 3 (2:) (vR 224)
theorem te11680701375863569841:tw11680701375863569841=tw11680701375863569841:=rfl
noncomputable def tw17586323541648774440:Params→Obj:=fun P=>oF vF "_law_fits" "_law_fits" (top 29) 3 (2:) (vR 219)
theorem te17586323541648774440:tw17586323541648774440=tw17586323541648774440:=rfl
noncomputable def tw15412985516561548024:Params→Obj:=fun P=>oF vF "_law_whole" "_law_whole" (top 40) 3 (2:) (vR 292)
theorem te15412985516561548024:tw15412985516561548024=tw15412985516561548024:=rfl
noncomputable def tw1106699764305668767:Params→Obj:=fun P=>oF vN "row_above" "row_above" (top 15) 0 vN vN
theorem te1106699764305668767:tw1106699764305668767=tw1106699764305668767:=rfl
noncomputable def tw4472841432722065509:Params→Obj:=fun P=>oF vF "meet_demand" "Demands.meet_demand" (L2.inClass (top 21) 3) 3 (19:) (vR 153)
theorem te4472841432722065509:tw4472841432722065509=tw4472841432722065509:=rfl
noncomputable def tw847186391659079219:Params→Obj:=fun P=>oF vF "_law_of_kind" "_law_of_kind" (top 42) 3 (2:) (vR 304)
theorem te847186391659079219:tw847186391659079219=tw847186391659079219:=rfl
noncomputable def tw15370289287814281254:Params→Obj:=fun P=>oF vF "_law_right" "_law_right" (top 44) 3 (2:) (vR 318)
theorem te15370289287814281254:tw15370289287814281254=tw15370289287814281254:=rfl
noncomputable def tw7314990537171054261:Params→Obj:=fun P=>oF vN "levels_needed" "levels_needed" (top 20) 0 vN vN
theorem te7314990537171054261:tw7314990537171054261=tw7314990537171054261:=rfl
noncomputable def tw5488425164104116876:Params→Obj:=fun P=>oF vF "__init__" "Demands.__init__" (L2.inClass (top 21) 0) 3 (19:) (vR 132)
theorem te5488425164104116876:tw5488425164104116876=tw5488425164104116876:=rfl
noncomputable def tw13280754402427237501:Params→Obj:=fun P=>oF vN "_law_whole" "_law_whole" (top 40) 0 vN vN
theorem te13280754402427237501:tw13280754402427237501=tw13280754402427237501:=rfl
noncomputable def tw16730454267728584839:Params→Obj:=fun P=>oF vN "_law_cell_at" "_law_cell_at" (top 23) 0 vN vN
theorem te16730454267728584839:tw16730454267728584839=tw16730454267728584839:=rfl
noncomputable def tw17423261930756216973:Params→Obj:=fun P=>oF vN "leafy" "leafy" (top 14) 0 vN vN
theorem te17423261930756216973:tw17423261930756216973=tw17423261930756216973:=rfl
noncomputable def tw8507604530873116604:Params→Obj:=fun P=>oF vN "_law_turning" "_law_turning" (top 32) 0 vN vN
theorem te8507604530873116604:tw8507604530873116604=tw8507604530873116604:=rfl
noncomputable def tw16166306313762489353:Params→Obj:=fun P=>oF vN "_law_calls" "_law_calls" (top 31) 0 vN vN
theorem te16166306313762489353:tw16166306313762489353=tw16166306313762489353:=rfl
noncomputable def tw11729325205391765680:Params→Obj:=fun P=>oF vN "law" "law" (top 45) 0 vN vN
theorem te11729325205391765680:tw11729325205391765680=tw11729325205391765680:=rfl
noncomputable def tw16616901026652709512:Params→Obj:=fun P=>oF vF "_law_names" "_law_names" (top 25) 3 (2:) (vR 193)
theorem te16616901026652709512:tw16616901026652709512=tw16616901026652709512:=rfl
noncomputable def tw15875101000796738211:Params→Obj:=fun P=>oF vF "_law_wrong_at" "_law_wrong_at" (top 43) 3 (2:) (vR 311)
theorem te15875101000796738211:tw15875101000796738211=tw15875101000796738211:=rfl
noncomputable def tw8882646571295186017:Params→Obj:=fun P=>oF vN "tree_and_place" "Demands.tree_and_place" (L2.inClass (top 21) 5) 0 vN vN
theorem te8882646571295186017:tw8882646571295186017=tw8882646571295186017:=rfl
noncomputable def tw16640910817889877371:Params→Obj:=fun P=>oF vF "leaf_of" "leaf_of" (top 12) 3 (vS "turnery.woods" 273) (vR 87)
theorem te16640910817889877371:tw16640910817889877371=tw16640910817889877371:=rfl
noncomputable def tw9858407267668521193:Params→Obj:=fun P=>oF vF "_law_copy" "_law_copy" (top 41) 3 (2:) (vR 297)
theorem te9858407267668521193:tw9858407267668521193=tw9858407267668521193:=rfl
end PySem.W.Fast
noncomputable def PySem.W.Fast.tw17821555793003605263:PySem.Program:=PySem.Challenge.pw_turnery_k61_where_outcomes_stray
theorem PySem.W.Fast.te17821555793003605263:(PySem.Challenge.pw_turnery_k61_where_outcomes_stray:PySem.Program)=PySem.W.Fast.tw17821555793003605263:=rfl
noncomputable def PySem.W.Fast.tw16378170476663694744:PySem.Program:={ PySem.Challenge.pw_turnery_k61_where_outcomes_stray with main:={ PySem.Challenge.pw_turnery_k61_where_outcomes_stray.main with body:=[K61.top 1,K61.top 2,K61.top 4,K61.top 6,K61.top 7,K61.top 8,K61.top 9,K61.top 11,K61.top 12,K61.top 14,K61.top 15,K61.top 16,K61.top 18,K61.top 19,K61.top 20,K61.top 21,K61.top 23,K61.top 24,K61.top 25,K61.top 26,K61.top 27,K61.top 28,K61.top 29,K61.top 30,K61.top 31,K61.top 32,K61.top 33,K61.top 34,K61.top 35,K61.top 36,K61.top 37,K61.top 38,K61.top 39,K61.top 40,K61.top 41,K61.top 42,K61.top 43,K61.top 44,K61.top 45] } }
theorem PySem.W.Fast.te16378170476663694744:({ PySem.Challenge.pw_turnery_k61_where_outcomes_stray with main:={ PySem.Challenge.pw_turnery_k61_where_outcomes_stray.main with body:=[K61.top 1,K61.top 2,K61.top 4,K61.top 6,K61.top 7,K61.top 8,K61.top 9,K61.top 11,K61.top 12,K61.top 14,K61.top 15,K61.top 16,K61.top 18,K61.top 19,K61.top 20,K61.top 21,K61.top 23,K61.top 24,K61.top 25,K61.top 26,K61.top 27,K61.top 28,K61.top 29,K61.top 30,K61.top 31,K61.top 32,K61.top 33,K61.top 34,K61.top 35,K61.top 36,K61.top 37,K61.top 38,K61.top 39,K61.top 40,K61.top 41,K61.top 42,K61.top 43,K61.top 44,K61.top 45] } }:PySem.Program)=PySem.W.Fast.tw16378170476663694744:=rfl
noncomputable def PySem.W.Fast.tw2454088746707296764:List PySem.Stmt:=(PySem.Challenge.pw_turnery_k61_where_outcomes_stray.main.body.drop 0).take 2
theorem PySem.W.Fast.te2454088746707296764:((PySem.Challenge.pw_turnery_k61_where_outcomes_stray.main.body.drop 0).take 2:List PySem.Stmt)=PySem.W.Fast.tw2454088746707296764:=rfl
noncomputable def PySem.W.Fast.tw4513261421348159725:List PySem.Stmt:=(PySem.Challenge.pw_turnery_k61_where_outcomes_stray.main.body.drop 2).take 9
theorem PySem.W.Fast.te4513261421348159725:((PySem.Challenge.pw_turnery_k61_where_outcomes_stray.main.body.drop 2).take 9:List PySem.Stmt)=PySem.W.Fast.tw4513261421348159725:=rfl
noncomputable def PySem.W.Fast.tw6864071127702682582:List PySem.Stmt:=(PySem.Challenge.pw_turnery_k61_where_outcomes_stray.main.body.drop 11).take 10
theorem PySem.W.Fast.te6864071127702682582:((PySem.Challenge.pw_turnery_k61_where_outcomes_stray.main.body.drop 11).take 10:List PySem.Stmt)=PySem.W.Fast.tw6864071127702682582:=rfl
noncomputable def PySem.W.Fast.tw14987174934888743943:List PySem.Stmt:=(PySem.Challenge.pw_turnery_k61_where_outcomes_stray.main.body.drop 21).take 1
theorem PySem.W.Fast.te14987174934888743943:((PySem.Challenge.pw_turnery_k61_where_outcomes_stray.main.body.drop 21).take 1:List PySem.Stmt)=PySem.W.Fast.tw14987174934888743943:=rfl
noncomputable def PySem.W.Fast.tw9568658818253737290:List PySem.Stmt:=(PySem.Challenge.pw_turnery_k61_where_outcomes_stray.main.body.drop 22).take 13
theorem PySem.W.Fast.te9568658818253737290:((PySem.Challenge.pw_turnery_k61_where_outcomes_stray.main.body.drop 22).take 13:List PySem.Stmt)=PySem.W.Fast.tw9568658818253737290:=rfl
noncomputable def PySem.W.Fast.tw12924721948916380975:List PySem.Stmt:=(PySem.Challenge.pw_turnery_k61_where_outcomes_stray.main.body.drop 35).take 11
theorem PySem.W.Fast.te12924721948916380975:((PySem.Challenge.pw_turnery_k61_where_outcomes_stray.main.body.drop 35).take 11:List PySem.Stmt)=PySem.W.Fast.tw12924721948916380975:=rfl
section
open PySem
open K61
noncomputable def K61.x11 (P:Params):Obj:={ cls:=Value.type "tuple", data:=Data.seq #[] }
noncomputable def K61.x12 (P:Params):Obj:={ cls:=vN,data:=Data.fields #[vI 2 0,vI 0 0,vR 20,vI 4 0,vI 0 0,vR 33,vI 7 0,vI 0 0,vR 45,vI 10 0,vI 0 0,vR 52,vI 17 0,vI 0 0,vR 59,vI 21 0,vI 0 0,vR 66,vI 25 0,vI 0 0,vR 73,vI 33 0,vI 0 0,vR 80,vI 35 0,vI 0 0,vR 87,vI 41 0,vI 0 0,vR 92,vI 43 0,vI 0 0,vR 99,vI 45 0,vI 0 0,vR 106,vI 52 0,vI 0 0,vR 113,vI 59 0,vI 0 0,vR 120,vI 62 0,vI 0 0,vR 127,vI 114 0,vI 0 0,vR 181,vI 118 0,vI 0 0,vR 188,vI 122 0,vI 0 0,vR 193,vI 135 0,vI 0 0,vR 200,vI 137 0,vI 0 0,vR 205,vI 150 0,vI 0 0,vR 212,vI 155 0,vI 0 0,vR 219,vI 158 0,vI 0 0,vR 224,vI 178 0,vI 0 0,vR 231,vI 185 0,vI 0 0,vR 238,vI 203 0,vI 0 0,vR 245,vI 212 0,vI 0 0,vR 250,vI 226 0,vI 0 0,vR 257,vI 232 0,vI 0 0,vR 264,vI 237 0,vI 0 0,vR 271,vI 241 0,vI 0 0,vR 278,vI 246 0,vI 0 0,vR 285,vI 251 0,vI 0 0,vR 292,vI 253 0,vI 0 0,vR 297,vI 256 0,vI 0 0,vR 304,vI 267 0,vI 0 0,vR 311,vI 279 0,vI 0 0,vR 318,vI 288 0,vI 0 0,vR 323] }
noncomputable def K61.x13 (P:Params):Obj:={ cls:=Value.type "code", data:=Data.fields #[vS "<module>" 182,vS "<module>" 183,vS "/claim/cut.py" 184,vI 1 0,vI 0 0,vI 0 0,vI 0 0,vI 0 0,vR 11,Value.bool false,vI 181 0,vR 12,vN,vN,vN,vN,vI 185 0,vI 1 0,vS "/claim/cut.py" 186] }
noncomputable def K61.x14 (P:Params):Obj:={ cls:=Value.type "frame", slots:=#[some (vR 13),some (vR 3),some (vR 3),none,some (vS "__main__" 164),none,some (vR 0)] }
noncomputable def K61.x16 (P:Params):Obj:={ cls:=Value.type "builtin_function_or_method", data:=Data.fields #[Value.builtin "type.__prepare__", Value.type "type"] }
noncomputable def K61.x17 (P:Params):Obj:={ cls:=Value.type "dict", data:=Data.dict #[hE P "__module__" 196 (vS "turnery.errors" 187),hE P "__qualname__" 198 (vS "TurnError" 197),hE P "__firstlineno__" 200 (vI 2 199),hE P "__static_attributes__" 201 (vR 22)] 4 }
noncomputable def K61.x18 (P:Params):Obj:={ cls:=Value.type "tuple", data:=Data.seq #[] }
noncomputable def K61.x20 (P:Params):Obj:={ cls:=Value.type "code", data:=Data.fields #[vS "TurnError" 191,vS "TurnError" 192,vS "/claim/cut.py" 193,vI 2 0,vI 0 0,vI 0 0,vI 0 0,vI 0 0,vR 18,Value.bool false,vI 181 0,vR 19,vN,vN,vN,vN,vI 194 0,vI 2 0,vS "/claim/cut.py" 195] }
noncomputable def K61.x21 (P:Params):Obj:={ cls:=Value.type "frame", slots:=#[some (vR 20),some (vR 3),some (vR 17),none,some (vS "turnery.errors" 187),none,some (vR 0)] }
noncomputable def K61.x26 (P:Params):Obj:={ cls:=Value.type "super", data:=Data.fields #[vR 24,vR 24,vR 24] }
noncomputable def K61.x27 (P:Params):Obj:={ cls:=Value.type "builtin_function_or_method", data:=Data.fields #[Value.builtin "object.__init_subclass__", vR 24] }
noncomputable def K61.x29 (P:Params):Obj:={ cls:=Value.type "builtin_function_or_method", data:=Data.fields #[Value.builtin "type.__prepare__", Value.type "type"] }
noncomputable def K61.x30 (P:Params):Obj:={ cls:=Value.type "dict", data:=Data.dict #[hE P "__module__" 214 (vS "turnery.errors" 187),hE P "__qualname__" 216 (vS "TooGreat" 215),hE P "__firstlineno__" 218 (vI 4 217),hE P "__static_attributes__" 219 (vR 35)] 4 }
noncomputable def K61.x31 (P:Params):Obj:={ cls:=Value.type "tuple", data:=Data.seq #[] }
noncomputable def K61.x33 (P:Params):Obj:={ cls:=Value.type "code", data:=Data.fields #[vS "TooGreat" 209,vS "TooGreat" 210,vS "/claim/cut.py" 211,vI 4 0,vI 0 0,vI 0 0,vI 0 0,vI 0 0,vR 31,Value.bool false,vI 181 0,vR 32,vN,vN,vN,vN,vI 212 0,vI 4 0,vS "/claim/cut.py" 213] }
noncomputable def K61.x34 (P:Params):Obj:={ cls:=Value.type "frame", slots:=#[some (vR 33),some (vR 3),some (vR 30),none,some (vS "turnery.errors" 187),none,some (vR 0)] }
noncomputable def K61.x38 (P:Params):Obj:={ cls:=Value.type "super", data:=Data.fields #[vR 37,vR 37,vR 37] }
noncomputable def K61.x39 (P:Params):Obj:={ cls:=Value.type "builtin_function_or_method", data:=Data.fields #[Value.builtin "object.__init_subclass__", vR 37] }
noncomputable def K61.x44 (P:Params):Obj:=W.Fast.tw5007118928800472171 P
noncomputable def K61.x51 (P:Params):Obj:=W.Fast.tw1708301180359971433 P
noncomputable def K61.x58 (P:Params):Obj:=W.Fast.tw18040823411468860048 P
noncomputable def K61.x65 (P:Params):Obj:=W.Fast.tw11468399443215955375 P
noncomputable def K61.x72 (P:Params):Obj:=W.Fast.tw8849014855133970651 P
noncomputable def K61.x79 (P:Params):Obj:=W.Fast.tw4814098508538618281 P
noncomputable def K61.x86 (P:Params):Obj:=W.Fast.tw7304342791448486976 P
noncomputable def K61.x91 (P:Params):Obj:=W.Fast.tw17423261930756216973 P
noncomputable def K61.x98 (P:Params):Obj:=W.Fast.tw1106699764305668767 P
noncomputable def K61.x105 (P:Params):Obj:=W.Fast.tw15873110870582941237 P
noncomputable def K61.x112 (P:Params):Obj:=W.Fast.tw5471915696941982912 P
noncomputable def K61.x119 (P:Params):Obj:=W.Fast.tw7314990537171054261 P
noncomputable def K61.x122 (P:Params):Obj:={ cls:=Value.type "tuple", data:=Data.seq #[] }
noncomputable def K61.x123 (P:Params):Obj:={ cls:=Value.type "builtin_function_or_method", data:=Data.fields #[Value.builtin "type.__prepare__", Value.type "type"] }
noncomputable def K61.x124 (P:Params):Obj:={ cls:=Value.type "dict", data:=Data.dict #[hE P "__module__" 350 (19:),hE P "__qualname__" 352 (vS "Demands" 351),hE P "__firstlineno__" 354 (vI 62 353),hE P "__init__" 360 (vR 133),hE P "look_by" 372 (vR 140),hE P "look" 386 (vR 147),hE P "meet_demand" 395 (vR 154),hE P "meet_fault" 403 (vR 161),hE P "tree_and_place" 415 (vR 168),hE P "__static_attributes__" 421 (vR 169)] 10 }
noncomputable def K61.x125 (P:Params):Obj:={ cls:=Value.type "tuple", data:=Data.seq #[] }
noncomputable def K61.x126 (P:Params):Obj:={ cls:=vN,data:=Data.fields #[vI 64 0,vI 4 0,vR 132,vI 76 0,vI 4 0,vR 139,vI 82 0,vI 4 0,vR 146,vI 93 0,vI 4 0,vR 153,vI 98 0,vI 4 0,vR 160,vI 102 0,vI 4 0,vR 167] }
noncomputable def K61.x127 (P:Params):Obj:={ cls:=Value.type "code", data:=Data.fields #[vS "Demands" 345,vS "Demands" 346,vS "/claim/cut.py" 347,vI 62 0,vI 0 0,vI 0 0,vI 0 0,vI 0 0,vR 125,Value.bool false,vI 181 0,vR 126,vN,vN,vN,vN,vI 348 0,vI 62 0,vS "/claim/cut.py" 349] }
noncomputable def K61.x128 (P:Params):Obj:={ cls:=Value.type "frame", slots:=#[some (vR 127),some (vR 3),some (vR 124),none,some (19:),none,some (vR 0)] }
noncomputable def K61.x131 (P:Params):Obj:=W.Fast.tw17135384053147129826 P
noncomputable def K61.x138 (P:Params):Obj:=W.Fast.tw10916549058359999315 P
noncomputable def K61.x145 (P:Params):Obj:=W.Fast.tw8847054013782594185 P
noncomputable def K61.x152 (P:Params):Obj:=W.Fast.tw3006505399014785346 P
noncomputable def K61.x159 (P:Params):Obj:=W.Fast.tw9045726931061521756 P
noncomputable def K61.x166 (P:Params):Obj:=W.Fast.tw8882646571295186017 P
noncomputable def K61.x174 (P:Params):Obj:={ cls:=Value.type "super", data:=Data.fields #[vR 171,vR 171,vR 171] }
noncomputable def K61.x175 (P:Params):Obj:={ cls:=Value.type "builtin_function_or_method", data:=Data.fields #[Value.builtin "object.__init_subclass__", vR 171] }
noncomputable def K61.x180 (P:Params):Obj:=W.Fast.tw16730454267728584839 P
noncomputable def K61.x187 (P:Params):Obj:=W.Fast.tw18236600078236596577 P
noncomputable def K61.x192 (P:Params):Obj:=W.Fast.tw2271718539220743244 P
noncomputable def K61.x199 (P:Params):Obj:=W.Fast.tw13499250230607407025 P
noncomputable def K61.x204 (P:Params):Obj:=W.Fast.tw12867871328509676311 P
noncomputable def K61.x211 (P:Params):Obj:=W.Fast.tw6138998920885105110 P
noncomputable def K61.x218 (P:Params):Obj:=W.Fast.tw16424122457260050823 P
noncomputable def K61.x223 (P:Params):Obj:=W.Fast.tw13294014701173512503 P
noncomputable def K61.x230 (P:Params):Obj:=W.Fast.tw16166306313762489353 P
noncomputable def K61.x237 (P:Params):Obj:=W.Fast.tw8507604530873116604 P
noncomputable def K61.x244 (P:Params):Obj:=W.Fast.tw12927377005349118621 P
noncomputable def K61.x249 (P:Params):Obj:=W.Fast.tw13877292192932549768 P
noncomputable def K61.x256 (P:Params):Obj:=W.Fast.tw14500950711151496764 P
noncomputable def K61.x263 (P:Params):Obj:=W.Fast.tw3262326915681017000 P
noncomputable def K61.x270 (P:Params):Obj:=W.Fast.tw10632599406729903101 P
noncomputable def K61.x277 (P:Params):Obj:=W.Fast.tw11100791860786394614 P
noncomputable def K61.x284 (P:Params):Obj:=W.Fast.tw7147297456662771004 P
noncomputable def K61.x291 (P:Params):Obj:=W.Fast.tw13280754402427237501 P
noncomputable def K61.x296 (P:Params):Obj:=W.Fast.tw9309382527617419083 P
noncomputable def K61.x303 (P:Params):Obj:=W.Fast.tw16423590501601912929 P
noncomputable def K61.x310 (P:Params):Obj:=W.Fast.tw15091731815297414185 P
noncomputable def K61.x317 (P:Params):Obj:=W.Fast.tw3607648967994101493 P
noncomputable def K61.x322 (P:Params):Obj:=W.Fast.tw11729325205391765680 P
noncomputable def _root_.PySem.W.Fast.tw13382716514877549825:Params→Heap:=fun P=>{ objs:=⟨[W.boot_o_0 P,W.boot_o_1 P,Obj.mk vN none (Data.dict #[]) #[],x3 P,W.boot_o_4 P,W.boot_o_5 P,W.boot_o_6 P,W.boot_o_7 P,W.boot_o_8 P,W.boot_o_9 P,W.boot_o_10 P,x11 P,x12 P,x13 P,x14 P,oT #[Value.type "ValueError"],x16 P,x17 P,x18 P,oE,x20 P,x21 P,oT #[],x23 P,x24 P,x25 P,x26 P,x27 P,oT #[vR 24],x29 P,x30 P,x31 P,oE,x33 P,x34 P,oT #[],x36 P,x37 P,x38 P,x39 P,oT #[],oE,oT #[vS "term" 228],oT #[],x44 P,x45 P,x46 P,oT #[],oE,x49 P,oT #[],x51 P,x52 P,x53 P,oT #[],oE,x56 P,oT #[],x58 P,x59 P,x60 P,oT #[],oE,oT #[vS "branches" 256,vS "number" 257],oT #[],x65 P,x66 P,x67 P,oT #[],oE,x70 P,oT #[],x72 P,x73 P,x74 P,oT #[],oE,oT #[vS "wood" 278,vS "kind" 279],oT #[],x79 P,x80 P,x81 P,oT #[],oE,x84 P,oT #[],x86 P,x87 P,x88 P,oT #[],oE,x91 P,x92 P,x93 P,oT #[],oE,oT #[vS "wood" 304],oT #[],x98 P,x99 P,x100 P,oT #[],oE,x103 P,oT #[],x105 P,x106 P,x107 P,oT #[],oE,x110 P,oT #[],x112 P,x113 P,x114 P,oT #[],oE,oT #[vS "fault" 338,vS "spot" 339],oT #[],x119 P,x120 P,x121 P,x122 P,x123 P,x124 P,x125 P,x126 P,x127 P,x128 P,oT #[],oE,x131 P,x132 P,x133 P,oT #[],oE,x136 P,oT #[],x138 P,x139 P,x140 P,oT #[],oE,x143 P,oT #[],x145 P,x146 P,x147 P,oT #[],oE,x150 P,oT #[],x152 P,x153 P,x154 P,oT #[],oE,oT #[vS "self" 399,vS "fault" 400],oT #[],x159 P,x160 P,x161 P,oT #[],oE,x164 P,oT #[],x166 P,x167 P,x168 P,x169 P,x170 P,x171 P,x172 P,x173 P,x174 P,x175 P,oT #[],oE,x178 P,oT #[],x180 P,x181 P,x182 P,oT #[],oE,x185 P,oT #[],x187 P,x188 P,x189 P,oT #[],oE,x192 P,x193 P,x194 P,oT #[],oE,oT #[vS "_law_cell" 457],oT #[],x199 P,x200 P,x201 P,oT #[],oE,x204 P,x205 P,x206 P,oT #[],oE,x209 P,oT #[],x211 P,x212 P,x213 P,oT #[],oE,x216 P,oT #[],x218 P,x219 P,x220 P,oT #[],oE,x223 P,x224 P,x225 P,oT #[],oE,x228 P,oT #[],x230 P,x231 P,x232 P,oT #[],oE,x235 P,oT #[],x237 P,x238 P,x239 P,oT #[],oE,x242 P,oT #[],x244 P,x245 P,x246 P,oT #[],oE,x249 P,x250 P,x251 P,oT #[],oE,x254 P,oT #[],x256 P,x257 P,x258 P,oT #[],oE,x261 P,oT #[],x263 P,x264 P,x265 P,oT #[],oE,x268 P,oT #[],x270 P,x271 P,x272 P,oT #[],oE,x275 P,oT #[],x277 P,x278 P,x279 P,oT #[],oE,x282 P,oT #[],x284 P,x285 P,x286 P,oT #[],oE,oT #[vS "_law_found" 599],oT #[],x291 P,x292 P,x293 P,oT #[],oE,x296 P,x297 P,x298 P,oT #[],oE,x301 P,oT #[],x303 P,x304 P,x305 P,oT #[],oE,x308 P,oT #[],x310 P,x311 P,x312 P,oT #[],oE,x315 P,oT #[],x317 P,x318 P,x319 P,oT #[],oE,x322 P,x323 P,x324 P]⟩ }
theorem _root_.PySem.W.Fast.te13382716514877549825:PySem.W.Fast.tw13382716514877549825=PySem.W.Fast.tw13382716514877549825:=rfl
noncomputable def K61.N:W.BT:=.nil
noncomputable def K61.B (o:Obj) (l r:W.BT):W.BT:=.node o l r
noncomputable def _root_.PySem.W.Fast.tw6544800127862677525:Params→W.BT:=fun P=>B (W.boot_o_0 P) (B (W.boot_o_1 P) (B (x3 P) (B (W.boot_o_7 P) (B (oT #[Value.type "ValueError"]) (B (x31 P) (B (oT #[vS "branches" 256,vS "number" 257]) (B (x127 P) (5:) N) (B (oE) (B (x319 P) N N) N)) (B (oE) (B (x159 P) (5:) N) (B (x223 P) N N))) (B (37:) (B (x79 P) (B (x143 P) (B (x271 P) N N) N) (5:)) (B (37:) (B (x175 P) (B (x303 P) N N) N) (B (x239 P) N N)))) (B (x23 P) (B (x39 P) (B (37:) (B (oE) (B (x263 P) N N) N) (B (x199 P) N N)) (B (x103 P) (B (x167 P) (32:) N) (B (x231 P) N N))) (B (oE) (B (x87 P) (B (37:) (B (x279 P) N N) N) (32:)) (B (x119 P) (B (37:) (B (x311 P) N N) N) (5:))))) (B (x11 P) (B (oE) (B (37:) (B (x67 P) (B (x131 P) (5:) N) (B (37:) (B (x323 P) N N) N)) (B (x99 P) (B (oE) (B (x291 P) N N) N) (32:))) (B (x51 P) (B (oE) (B (x147 P) (B (x275 P) N N) N) (B (x211 P) N N)) (B (37:) (B (37:) (32:) N) (5:)))) (B (x27 P) (B (37:) (B (37:) (B (x139 P) (32:) N) (32:)) (B (x107 P) (B (x171 P) (5:) N) (B (x235 P) N N))) (B (x59 P) (B (x91 P) (B (37:) (5:) N) (B (x219 P) N N)) (B (x123 P) (B (x187 P) (B (x315 P) N N) N) (B (x251 P) N N)))))) (B (W.boot_o_5 P) (B (W.boot_o_9 P) (B (x17 P) (B (x33 P) (B (x65 P) (B (37:) (B (x257 P) N N) N) (B (x193 P) (32:) N)) (B (37:) (B (x161 P) (B (oT #[vS "_law_found" 599]) N N) N) (B (x225 P) N N))) (B (x49 P) (B (x81 P) (B (x145 P) (5:) N) (B (x209 P) N N)) (B (x113 P) (B (oE) (B (x305 P) N N) N) (32:)))) (B (x25 P) (B (oE) (B (x73 P) (B (37:) (B (x265 P) N N) N) (B (x201 P) N N)) (B (x105 P) (B (x169 P) (B (x297 P) N N) N) (5:))) (B (37:) (B (37:) (B (x153 P) (32:) N) (5:)) (B (x121 P) (B (x185 P) (5:) N) (B (x249 P) N N))))) (B (x13 P) (B (x21 P) (B (x37 P) (B (oE) (B (x133 P) (B (x261 P) N N) N) (B (oT #[vS "_law_cell" 457]) N N)) (B (37:) (B (37:) (B (x293 P) N N) N) (5:))) (B (x53 P) (B (37:) (B (oE) (B (x277 P) N N) N) (B (x213 P) N N)) (B (oT #[vS "fault" 338,vS "spot" 339]) (B (x181 P) (5:) N) (B (x245 P) N N)))) (B (x29 P) (B (x45 P) (B (oT #[vS "wood" 278,vS "kind" 279]) (B (37:) (5:) N) (B (x205 P) N N)) (B (oE) (B (x173 P) (B (x301 P) N N) N) (B (x237 P) N N))) (B (37:) (B (x93 P) (B (oT #[vS "self" 399,vS "fault" 400]) (B (x285 P) N N) N) (5:)) (B (x125 P) (B (x189 P) (B (x317 P) N N) N) (32:))))))) (B (Obj.mk vN none (Data.dict #[]) #[]) (B (W.boot_o_4 P) (B (W.boot_o_8 P) (B (x16 P) (B (oE) (B (37:) (B (x128 P) (B (x256 P) N N) N) (B (x192 P) (5:) N)) (B (oT #[vS "wood" 304]) (B (x160 P) (32:) N) (B (x224 P) N N))) (B (oE) (B (x80 P) (B (37:) (B (x272 P) N N) N) (32:)) (B (x112 P) (B (37:) (B (x304 P) N N) N) (5:)))) (B (x24 P) (B (37:) (B (x72 P) (B (x136 P) (B (x264 P) N N) N) (B (x200 P) N N)) (B (37:) (B (x168 P) (B (x296 P) N N) N) (B (x232 P) N N))) (B (x56 P) (B (x88 P) (B (x152 P) (5:) N) (B (x216 P) N N)) (B (x120 P) (B (oE) (B (x312 P) N N) N) (32:))))) (B (x12 P) (B (x20 P) (B (x36 P) (B (37:) (B (x132 P) (32:) N) (B (oE) (B (x324 P) N N) N)) (B (x100 P) (B (x164 P) (B (x292 P) N N) N) (B (x228 P) N N))) (B (x52 P) (B (x84 P) (B (37:) (5:) N) (B (x212 P) N N)) (B (oE) (B (x180 P) (B (x308 P) N N) N) (B (x244 P) N N)))) (B (oT #[vR 24]) (B (x44 P) (B (oE) (B (x140 P) (B (x268 P) N N) N) (B (x204 P) N N)) (B (37:) (B (x172 P) (32:) N) (5:))) (B (x60 P) (B (x92 P) (B (oE) (B (x284 P) N N) N) (B (x220 P) N N)) (B (x124 P) (B (x188 P) (5:) N) (5:)))))) (B (W.boot_o_6 P) (B (W.boot_o_10 P) (B (x18 P) (B (x34 P) (B (x66 P) (B (oE) (B (x258 P) N N) N) (B (x194 P) (B (x322 P) N N) N)) (B (x98 P) (B (37:) (5:) N) (5:))) (B (37:) (B (37:) (B (x146 P) (32:) N) (5:)) (B (x114 P) (B (x178 P) (5:) N) (B (x242 P) N N)))) (B (x26 P) (B (oT #[vS "term" 228]) (B (x74 P) (B (x138 P) (5:) N) (5:)) (B (x106 P) (B (x170 P) (B (x298 P) N N) N) (32:))) (B (x58 P) (B (oE) (B (x154 P) (B (x282 P) N N) N) (B (x218 P) N N)) (B (x122 P) (B (37:) (32:) N) (B (x250 P) N N))))) (B (x14 P) (B (37:) (B (x38 P) (B (x70 P) (B (37:) (5:) N) (5:)) (B (oE) (B (x166 P) (5:) N) (B (x230 P) N N))) (B (37:) (B (x86 P) (B (x150 P) (B (x278 P) N N) N) (5:)) (B (37:) (B (x182 P) (B (x310 P) N N) N) (B (x246 P) N N)))) (B (x30 P) (B (x46 P) (B (37:) (B (oE) (B (x270 P) N N) N) (B (x206 P) N N)) (B (x110 P) (B (x174 P) (5:) N) (B (x238 P) N N))) (B (oE) (B (37:) (B (37:) (B (x286 P) N N) N) (32:)) (B (x126 P) (B (37:) (B (x318 P) N N) N) (B (x254 P) N N)))))))
theorem _root_.PySem.W.Fast.te6544800127862677525:PySem.W.Fast.tw6544800127862677525=PySem.W.Fast.tw6544800127862677525:=rfl
noncomputable def K61.y3_296 (P:Params):Obj:={ cls:=Value.type "dict", data:=Data.dict #[hE P "__name__" 165 (2:),hE P "__doc__" 166 (vN),hE P "__package__" 167 (vN),hE P "__loader__" 168 (Value.builtin "__main__.__loader__#opaque"),hE P "__spec__" 169 (vN),hE P "__annotations__" 170 (vR 6),hE P "__builtins__" 171 (vR 4),hE P "__file__" 173 (vS "/claim/cut.py" 172),hE P "__cached__" 174 (vN),hE P "TurnError" 206 (vR 24),hE P "TooGreat" 222 (vR 37),hE P "is_call" 231 (vR 46),hE P "at" 243 (vR 53),hE P "put_at" 252 (vR 60),hE P "has_number" 260 (vR 67),hE P "put_below" 272 (vR 74),hE P "rows_of" 282 (vR 81),hE P "leaf_of" 292 (vR 88),hE P "leafy" 300 (vR 93),hE P "row_above" 307 (vR 100),hE P "tree_on" 321 (vR 107),hE P "MOST_LEVELS" 325 (vI 40 324),hE P "strays" 334 (vR 114),hE P "levels_needed" 342 (vR 121),hE P "Demands" 428 (vR 171),hE P "_law_cell_at" 438 (vR 182),hE P "_law_mixed" 447 (vR 189),hE P "_law_names" 453 (vR 194),hE P "_law_great" 460 (vR 201),hE P "_law_wood" 466 (vR 206),hE P "_law_row" 476 (vR 213),hE P "_law_fits" 486 (vR 220),hE P "_law_loose" 492 (vR 225),hE P "_law_calls" 503 (vR 232),hE P "_law_turning" 525 (vR 239),hE P "_law_asks" 537 (vR 246),hE P "_law_pairs" 543 (vR 251)] 37 }
noncomputable def K61.y12_296 (P:Params):Obj:={ cls:=vN,data:=Data.fields #[vI 2 0,vI 0 0,vR 20,vI 4 0,vI 0 0,vR 33,vI 7 0,vI 0 0,vR 45,vI 10 0,vI 0 0,vR 52,vI 17 0,vI 0 0,vR 59,vI 21 0,vI 0 0,vR 66,vI 25 0,vI 0 0,vR 73,vI 33 0,vI 0 0,vR 80,vI 35 0,vI 0 0,vR 87,vI 41 0,vI 0 0,vR 92,vI 43 0,vI 0 0,vR 99,vI 45 0,vI 0 0,vR 106,vI 52 0,vI 0 0,vR 113,vI 59 0,vI 0 0,vR 120,vI 62 0,vI 0 0,vR 127,vI 114 0,vI 0 0,vR 181,vI 118 0,vI 0 0,vR 188,vI 122 0,vI 0 0,vR 193,vI 135 0,vI 0 0,vR 200,vI 137 0,vI 0 0,vR 205,vI 150 0,vI 0 0,vR 212,vI 155 0,vI 0 0,vR 219,vI 158 0,vI 0 0,vR 224,vI 178 0,vI 0 0,vR 231,vI 185 0,vI 0 0,vR 238,vI 203 0,vI 0 0,vR 245,vI 212 0,vI 0 0,vR 250] }
noncomputable def _root_.PySem.W.Fast.tw13948005983858633138:Params→W.BT:=fun P=>B (W.boot_o_0 P) (B (W.boot_o_1 P) (B (y3_296 P) (B (W.boot_o_7 P) (B (oT #[Value.type "ValueError"]) (B (x31 P) (B (oT #[vS "branches" 256,vS "number" 257]) (B (x127 P) N N) (32:)) (B (oE) (B (x159 P) N N) (B (x223 P) N N))) (B (37:) (B (x79 P) (B (x143 P) N N) (5:)) (B (37:) (B (x175 P) N N) (B (x239 P) N N)))) (B (x23 P) (B (x39 P) (B (37:) (32:) (B (x199 P) N N)) (B (x103 P) (B (x167 P) N N) (B (x231 P) N N))) (B (oE) (B (x87 P) (5:) (32:)) (B (x119 P) (5:) (5:))))) (B (x11 P) (B (oE) (B (37:) (B (x67 P) (B (x131 P) N N) (5:)) (B (x99 P) (32:) (32:))) (B (x51 P) (B (oE) (B (x147 P) N N) (B (x211 P) N N)) (B (37:) (5:) (5:)))) (B (x27 P) (B (37:) (B (37:) (B (x139 P) N N) (32:)) (B (x107 P) (B (x171 P) N N) (B (x235 P) N N))) (B (x59 P) (B (x91 P) (5:) (B (x219 P) N N)) (B (x123 P) (B (x187 P) N N) (B (x251 P) N N)))))) (B (W.boot_o_5 P) (B (W.boot_o_9 P) (B (x17 P) (B (x33 P) (B (x65 P) (5:) (B (x193 P) N N)) (B (37:) (B (x161 P) N N) (B (x225 P) N N))) (B (x49 P) (B (x81 P) (B (x145 P) N N) (B (x209 P) N N)) (B (x113 P) (32:) (32:)))) (B (x25 P) (B (oE) (B (x73 P) (5:) (B (x201 P) N N)) (B (x105 P) (B (x169 P) N N) (5:))) (B (37:) (B (37:) (B (x153 P) N N) (5:)) (B (x121 P) (B (x185 P) N N) (B (x249 P) N N))))) (B (x13 P) (B (x21 P) (B (x37 P) (B (oE) (B (x133 P) N N) (B (oT #[vS "_law_cell" 457]) N N)) (B (37:) (5:) (5:))) (B (x53 P) (B (37:) (32:) (B (x213 P) N N)) (B (oT #[vS "fault" 338,vS "spot" 339]) (B (x181 P) N N) (B (x245 P) N N)))) (B (x29 P) (B (x45 P) (B (oT #[vS "wood" 278,vS "kind" 279]) (5:) (B (x205 P) N N)) (B (oE) (B (x173 P) N N) (B (x237 P) N N))) (B (37:) (B (x93 P) (B (oT #[vS "self" 399,vS "fault" 400]) N N) (5:)) (B (x125 P) (B (x189 P) N N) N)))))) (B (Obj.mk vN none (Data.dict #[]) #[]) (B (W.boot_o_4 P) (B (W.boot_o_8 P) (B (x16 P) (B (oE) (B (37:) (B (x128 P) N N) (B (x192 P) N N)) (B (oT #[vS "wood" 304]) (B (x160 P) N N) (B (x224 P) N N))) (B (oE) (B (x80 P) (5:) (32:)) (B (x112 P) (5:) (5:)))) (B (x24 P) (B (37:) (B (x72 P) (B (x136 P) N N) (B (x200 P) N N)) (B (37:) (B (x168 P) N N) (B (x232 P) N N))) (B (x56 P) (B (x88 P) (B (x152 P) N N) (B (x216 P) N N)) (B (x120 P) (32:) (32:))))) (B (y12_296 P) (B (x20 P) (B (x36 P) (B (37:) (B (x132 P) N N) (32:)) (B (x100 P) (B (x164 P) N N) (B (x228 P) N N))) (B (x52 P) (B (x84 P) (5:) (B (x212 P) N N)) (B (oE) (B (x180 P) N N) (B (x244 P) N N)))) (B (oT #[vR 24]) (B (x44 P) (B (oE) (B (x140 P) N N) (B (x204 P) N N)) (B (37:) (B (x172 P) N N) (5:))) (B (x60 P) (B (x92 P) (32:) (B (x220 P) N N)) (B (x124 P) (B (x188 P) N N) N))))) (B (W.boot_o_6 P) (B (W.boot_o_10 P) (B (x18 P) (B (x34 P) (B (x66 P) (32:) (B (x194 P) N N)) (B (x98 P) (5:) (5:))) (B (37:) (B (37:) (B (x146 P) N N) (5:)) (B (x114 P) (B (x178 P) N N) (B (x242 P) N N)))) (B (x26 P) (B (oT #[vS "term" 228]) (B (x74 P) (B (x138 P) N N) (5:)) (B (x106 P) (B (x170 P) N N) (32:))) (B (x58 P) (B (oE) (B (x154 P) N N) (B (x218 P) N N)) (B (x122 P) (5:) (B (x250 P) N N))))) (B (x14 P) (B (37:) (B (x38 P) (B (x70 P) (5:) (5:)) (B (oE) (B (x166 P) N N) (B (x230 P) N N))) (B (37:) (B (x86 P) (B (x150 P) N N) (5:)) (B (37:) (B (x182 P) N N) (B (x246 P) N N)))) (B (x30 P) (B (x46 P) (B (37:) (32:) (B (x206 P) N N)) (B (x110 P) (B (x174 P) N N) (B (x238 P) N N))) (B (oE) (B (37:) (5:) (32:)) (B (x126 P) (5:) N))))))
theorem _root_.PySem.W.Fast.te13948005983858633138:PySem.W.Fast.tw13948005983858633138=PySem.W.Fast.tw13948005983858633138:=rfl
noncomputable def K61.y3_218 (P:Params):Obj:={ cls:=Value.type "dict", data:=Data.dict #[hE P "__name__" 165 (19:),hE P "__doc__" 166 (vN),hE P "__package__" 167 (vN),hE P "__loader__" 168 (Value.builtin "__main__.__loader__#opaque"),hE P "__spec__" 169 (vN),hE P "__annotations__" 170 (vR 6),hE P "__builtins__" 171 (vR 4),hE P "__file__" 173 (vS "/claim/cut.py" 172),hE P "__cached__" 174 (vN),hE P "TurnError" 206 (vR 24),hE P "TooGreat" 222 (vR 37),hE P "is_call" 231 (vR 46),hE P "at" 243 (vR 53),hE P "put_at" 252 (vR 60),hE P "has_number" 260 (vR 67),hE P "put_below" 272 (vR 74),hE P "rows_of" 282 (vR 81),hE P "leaf_of" 292 (vR 88),hE P "leafy" 300 (vR 93),hE P "row_above" 307 (vR 100),hE P "tree_on" 321 (vR 107),hE P "MOST_LEVELS" 325 (vI 40 324),hE P "strays" 334 (vR 114),hE P "levels_needed" 342 (vR 121),hE P "Demands" 428 (vR 171)] 25 }
noncomputable def K61.y12_218 (P:Params):Obj:={ cls:=vN,data:=Data.fields #[vI 2 0,vI 0 0,vR 20,vI 4 0,vI 0 0,vR 33,vI 7 0,vI 0 0,vR 45,vI 10 0,vI 0 0,vR 52,vI 17 0,vI 0 0,vR 59,vI 21 0,vI 0 0,vR 66,vI 25 0,vI 0 0,vR 73,vI 33 0,vI 0 0,vR 80,vI 35 0,vI 0 0,vR 87,vI 41 0,vI 0 0,vR 92,vI 43 0,vI 0 0,vR 99,vI 45 0,vI 0 0,vR 106,vI 52 0,vI 0 0,vR 113,vI 59 0,vI 0 0,vR 120,vI 62 0,vI 0 0,vR 127] }
noncomputable def _root_.PySem.W.Fast.tw2644012931515940840:Params→W.BT:=fun P=>B (W.boot_o_0 P) (B (W.boot_o_1 P) (B (y3_218 P) (B (W.boot_o_7 P) (B (oT #[Value.type "ValueError"]) (B (x31 P) (B (oT #[vS "branches" 256,vS "number" 257]) (B (x127 P) N N) N) (B (oE) (B (x159 P) N N) N)) (B (37:) (B (x79 P) (B (x143 P) N N) N) (B (37:) (B (x175 P) N N) N))) (B (x23 P) (B (x39 P) (B (37:) (32:) N) (B (x103 P) (B (x167 P) N N) N)) (B (oE) (B (x87 P) (5:) N) (B (x119 P) N N)))) (B (x11 P) (B (oE) (B (37:) (B (x67 P) (B (x131 P) N N) N) (B (x99 P) (32:) N)) (B (x51 P) (B (oE) (B (x147 P) N N) N) (5:))) (B (x27 P) (B (37:) (B (37:) (B (x139 P) N N) N) (B (x107 P) (B (x171 P) N N) N)) (B (x59 P) (B (x91 P) (5:) N) (B (x123 P) N N))))) (B (W.boot_o_5 P) (B (W.boot_o_9 P) (B (x17 P) (B (x33 P) (B (x65 P) (5:) N) (B (37:) (B (x161 P) N N) N)) (B (x49 P) (B (x81 P) (B (x145 P) N N) N) (B (x113 P) N N))) (B (x25 P) (B (oE) (B (x73 P) (5:) N) (B (x105 P) (B (x169 P) N N) N)) (B (37:) (B (37:) (B (x153 P) N N) N) (B (x121 P) N N)))) (B (x13 P) (B (x21 P) (B (x37 P) (B (oE) (B (x133 P) N N) N) (B (37:) (5:) N)) (B (x53 P) (B (37:) (32:) N) (B (oT #[vS "fault" 338,vS "spot" 339]) N N))) (B (x29 P) (B (x45 P) (B (oT #[vS "wood" 278,vS "kind" 279]) (5:) N) (B (oE) (B (x173 P) N N) N)) (B (37:) (B (x93 P) (B (oT #[vS "self" 399,vS "fault" 400]) N N) N) (B (x125 P) N N)))))) (B (Obj.mk vN none (Data.dict #[]) #[]) (B (W.boot_o_4 P) (B (W.boot_o_8 P) (B (x16 P) (B (oE) (B (37:) (B (x128 P) N N) N) (B (oT #[vS "wood" 304]) (B (x160 P) N N) N)) (B (oE) (B (x80 P) (5:) N) (B (x112 P) N N))) (B (x24 P) (B (37:) (B (x72 P) (B (x136 P) N N) N) (B (37:) (B (x168 P) N N) N)) (B (x56 P) (B (x88 P) (B (x152 P) N N) N) (B (x120 P) N N)))) (B (y12_218 P) (B (x20 P) (B (x36 P) (B (37:) (B (x132 P) N N) N) (B (x100 P) (B (x164 P) N N) N)) (B (x52 P) (B (x84 P) (5:) N) (32:))) (B (oT #[vR 24]) (B (x44 P) (B (oE) (B (x140 P) N N) N) (B (37:) (B (x172 P) N N) N)) (B (x60 P) (B (x92 P) (32:) N) (B (x124 P) N N))))) (B (W.boot_o_6 P) (B (W.boot_o_10 P) (B (x18 P) (B (x34 P) (B (x66 P) (32:) N) (B (x98 P) (5:) N)) (B (37:) (B (37:) (B (x146 P) N N) N) (B (x114 P) N N))) (B (x26 P) (B (oT #[vS "term" 228]) (B (x74 P) (B (x138 P) N N) N) (B (x106 P) (B (x170 P) N N) N)) (B (x58 P) (B (oE) (B (x154 P) N N) N) (B (x122 P) N N)))) (B (x14 P) (B (37:) (B (x38 P) (B (x70 P) (5:) N) (B (oE) (B (x166 P) N N) N)) (B (37:) (B (x86 P) (B (x150 P) N N) N) (5:))) (B (x30 P) (B (x46 P) (B (37:) (32:) N) (B (x110 P) (B (x174 P) N N) N)) (B (oE) (B (37:) (5:) N) (B (x126 P) N N))))))
theorem _root_.PySem.W.Fast.te2644012931515940840:PySem.W.Fast.tw2644012931515940840=PySem.W.Fast.tw2644012931515940840:=rfl
end
open PySem PySem.W PyProof.Rows
set_option maxRecDepth 100000 in
set_option maxHeartbeats 0 in
theorem PySem.Challenge.cw_turnery_k61_where_outcomes_stray_holds : PySem.Challenge.rw_turnery_k61_where_outcomes_stray.Holds := by
 w_on;o_law;k_head;(case hw=>w_witness2)
 k_fill
 refine K61.walk (l:=PySem.Challenge.rw_turnery_k61_where_outcomes_stray) rfl rfl (fun w h Y=>PySem.W.kIn_of Y) ?F
 case F =>
  intro w mg fa h KX G hmg
  refine' K61.all_mk KX G hmg ?d1 ?d2 ?d3 ?d4 ?d5 ?d6 ?d7 ?d8 ?d9 ?d10 ?d11 ?d12 ?d13 ?d14 ?d15 ?d16 ?d17 ?d18 ?d19 ?d20 ?d21 ?d22 ?d23 ?d24 ?d25 ?d26 ?d27 ?d28 ?d29 ?d30 ?d31 ?d32 ?d33 ?d34 ?d35 ?z1 ?z2 ?z3 ?z4 ?z5 ?z6 ?z7 ?z8 ?z9 ?z10 ?z11 ?z12 ?z13 ?z14 ?s1 ?g1
  (case d1=>refine' L2.DefAt.mk' ?a ?l ?c ?k;(case a=>k_is);(case l=>k_is);(case c=>k_is);(case k=>k_is))
  (case d2=>refine' L2.DefAt.mk' ?a ?l ?c ?k;(case a=>k_is);(case l=>k_is);(case c=>k_is);(case k=>k_is))
  (case d3=>refine' L2.DefAt.mk' ?a ?l ?c ?k;(case a=>k_is);(case l=>k_is);(case c=>k_is);(case k=>k_is))
  (case d4=>refine' L2.DefAt.mk' ?a ?l ?c ?k;(case a=>k_is);(case l=>k_is);(case c=>k_is);(case k=>k_is))
  (case d5=>refine' L2.DefAt.mk' ?a ?l ?c ?k;(case a=>k_is);(case l=>k_is);(case c=>k_is);(case k=>k_is))
  (case d6=>refine' L2.DefAt.mk' ?a ?l ?c ?k;(case a=>k_is);(case l=>k_is);(case c=>k_is);(case k=>k_is))
  (case d7=>refine' L2.DefAt.mk' ?a ?l ?c ?k;(case a=>k_is);(case l=>k_is);(case c=>k_is);(case k=>k_is))
  (case d8=>refine' L2.DefAt.mk' ?a ?l ?c ?k;(case a=>k_is);(case l=>k_is);(case c=>k_is);(case k=>k_is))
  (case d9=>refine' L2.DefAt.mk' ?a ?l ?c ?k;(case a=>k_is);(case l=>k_is);(case c=>k_is);(case k=>k_is))
  (case d10=>refine' L2.DefAt.mk' ?a ?l ?c ?k;(case a=>k_is);(case l=>k_is);(case c=>k_is);(case k=>k_is))
  (case d11=>refine' L2.DefAt.mk' ?a ?l ?c ?k;(case a=>k_is);(case l=>k_is);(case c=>k_is);(case k=>k_is))
  (case d12=>refine' L2.DefAt.mk' ?a ?l ?c ?k;(case a=>k_is);(case l=>k_is);(case c=>k_is);(case k=>k_is))
  (case d13=>refine' L2.DefAt.mk' ?a ?l ?c ?k;(case a=>k_is);(case l=>k_is);(case c=>k_is);(case k=>k_is))
  (case d14=>refine' L2.DefAt.mk' ?a ?l ?c ?k;(case a=>k_is);(case l=>k_is);(case c=>k_is);(case k=>k_is))
  (case d15=>refine' L2.DefAt.mk' ?a ?l ?c ?k;(case a=>k_is);(case l=>k_is);(case c=>k_is);(case k=>k_is))
  (case d16=>refine' L2.DefAt.mk' ?a ?l ?c ?k;(case a=>k_is);(case l=>k_is);(case c=>k_is);(case k=>k_is))
  (case d17=>refine' L2.DefAt.mk' ?a ?l ?c ?k;(case a=>k_is);(case l=>k_is);(case c=>k_is);(case k=>k_is))
  (case d18=>refine' L2.DefAt.mk' ?a ?l ?c ?k;(case a=>k_is);(case l=>k_is);(case c=>k_is);(case k=>k_is))
  (case d19=>refine' L2.DefAt.mk' ?a ?l ?c ?k;(case a=>k_is);(case l=>k_is);(case c=>k_is);(case k=>k_is))
  (case d20=>refine' L2.DefAt.mk' ?a ?l ?c ?k;(case a=>k_is);(case l=>k_is);(case c=>k_is);(case k=>k_is))
  (case d21=>refine' L2.DefAt.mk' ?a ?l ?c ?k;(case a=>k_is);(case l=>k_is);(case c=>k_is);(case k=>k_is))
  (case d22=>refine' L2.DefAt.mk' ?a ?l ?c ?k;(case a=>k_is);(case l=>k_is);(case c=>k_is);(case k=>k_is))
  (case d23=>refine' L2.DefAt.mk' ?a ?l ?c ?k;(case a=>k_is);(case l=>k_is);(case c=>k_is);(case k=>k_is))
  (case d24=>refine' L2.DefAt.mk' ?a ?l ?c ?k;(case a=>k_is);(case l=>k_is);(case c=>k_is);(case k=>k_is))
  (case d25=>refine' L2.DefAt.mk' ?a ?l ?c ?k;(case a=>k_is);(case l=>k_is);(case c=>k_is);(case k=>k_is))
  (case d26=>refine' L2.DefAt.mk' ?a ?l ?c ?k;(case a=>k_is);(case l=>k_is);(case c=>k_is);(case k=>k_is))
  (case d27=>refine' L2.DefAt.mk' ?a ?l ?c ?k;(case a=>k_is);(case l=>k_is);(case c=>k_is);(case k=>k_is))
  (case d28=>refine' L2.DefAt.mk' ?a ?l ?c ?k;(case a=>k_is);(case l=>k_is);(case c=>k_is);(case k=>k_is))
  (case d29=>refine' L2.DefAt.mk' ?a ?l ?c ?k;(case a=>k_is);(case l=>k_is);(case c=>k_is);(case k=>k_is))
  (case d30=>refine' L2.DefAt.mk' ?a ?l ?c ?k;(case a=>k_is);(case l=>k_is);(case c=>k_is);(case k=>k_is))
  (case d31=>refine' L2.DefAt.mk' ?a ?l ?c ?k;(case a=>k_is);(case l=>k_is);(case c=>k_is);(case k=>k_is))
  (case d32=>refine' L2.DefAt.mk' ?a ?l ?c ?k;(case a=>k_is);(case l=>k_is);(case c=>k_is);(case k=>k_is))
  (case d33=>refine' L2.DefAt.mk' ?a ?l ?c ?k;(case a=>k_is);(case l=>k_is);(case c=>k_is);(case k=>k_is))
  (case d34=>refine' L2.DefAt.mk' ?a ?l ?c ?k;(case a=>k_is);(case l=>k_is);(case c=>k_is);(case k=>k_is))
  (case d35=>refine' L2.DefAt.mk' ?a ?l ?c ?k;(case a=>k_is);(case l=>k_is);(case c=>k_is);(case k=>k_is))
  (case z1=>k_is);(case z2=>k_is);(case z3=>k_is);(case z4=>k_is);(case z5=>k_is);(case z6=>k_is);(case z7=>k_is);(case z8=>k_is);(case z9=>k_is);(case z10=>k_is);(case z11=>k_is);(case z12=>k_is);(case z13=>k_is);(case z14=>k_is)
  case s1 =>
   refine' K61.DmK.mk' ?aC ?pg ?hd ?po ?sa ?n1 ?n2 ?n3 ?n4 ?n5 ?mk ?kc ?m1 ?m2 ?m3 ?m4 ?m5 ?m6
   (case aC=>k_is);(case pg=>k_is);(case hd=>k_is);(case po=>k_is);(case sa=>k_is);(case n1=>k_is);(case n2=>k_is);(case n3=>k_is);(case n4=>k_is);(case n5=>k_is);(case mk=>k_is);(case kc=>k_is)
   (case m1=>refine' L2.MethAt.mk' ?a ?i ?l ?c ?k;(case a=>k_is);(case i=>k_is);(case l=>k_is);(case c=>k_is);(case k=>k_is))
   (case m2=>refine' L2.MethAt.mk' ?a ?i ?l ?c ?k;(case a=>k_is);(case i=>k_is);(case l=>k_is);(case c=>k_is);(case k=>k_is))
   (case m3=>refine' L2.MethAt.mk' ?a ?i ?l ?c ?k;(case a=>k_is);(case i=>k_is);(case l=>k_is);(case c=>k_is);(case k=>k_is))
   (case m4=>refine' L2.MethAt.mk' ?a ?i ?l ?c ?k;(case a=>k_is);(case i=>k_is);(case l=>k_is);(case c=>k_is);(case k=>k_is))
   (case m5=>refine' L2.MethAt.mk' ?a ?i ?l ?c ?k;(case a=>k_is);(case i=>k_is);(case l=>k_is);(case c=>k_is);(case k=>k_is))
   (case m6=>refine' L2.MethAt.mk' ?a ?i ?l ?c ?k;(case a=>k_is);(case i=>k_is);(case l=>k_is);(case c=>k_is);(case k=>k_is))
  (case g1=>k_is)
