import PyProof.Rows.All
import Wide.All
import OpenK.AllK
import Wide.FinOn
import Lean
import PyProof.EqAt
import PyProof.EqKinds
import PyProof.TupleCall
import KE.KSortTup
import PyProof.PureStr
import KE.KLam
import KE.KNestM
import PyProof.DictItems
import PyProof.DictValues
import PyProof.DictWalks
import KE.KRevIter
import KE.KTryDeep
import KE.KTryOn
import OpenK.KOwn
import PyProof.FString
import PyProof.RulesAs
import PyProof.NsDelKeeps
import KE.KIsAll
import PySem.Challenge.RW_turnery_k22_what_is_made
noncomputable section
set_option Elab.async false
set_option linter.all false
set_option maxRecDepth 100000
namespace L2
open PySem PySem.Spec PyProof.Rows
abbrev Key:=Sum Int Str
def JU:Key→Value→Bool
  | .inl k,v=>Value.isInt k v
  | .inr x,v=>Value.isStrOf x v
def Rg (w:World):Key→Int
  | .inl k=>hashInt k
  | .inr x=>hashStr w x
theorem QL:∀ {k:Key} {v:Value},JU k v=true→(∃ i t,k=Sum.inl i∧v=Value.int i t)∨(∃ x t,k=Sum.inr x∧v=Value.str x t)
  | .inl i,v,h=>by
    obtain ⟨t,e⟩:=Value.isInt_shape (k:=i) (v:=v) h
    exact .inl ⟨i,t,rfl,e⟩
  | .inr x,v,h=>by
    obtain ⟨t,e⟩:=Value.isStrOf_shape (x:=x) (v:=v) h
    exact .inr ⟨x,t,rfl,e⟩
theorem Gp (i:Int) (t:Tok):JU (.inl i) (.int i t)=true:=by simp [JU,Value.isInt]
theorem Go (x:Str) (t:Tok):JU (.inr x) (.str x t)=true:=by simp [JU,Value.isStrOf]
theorem Oa (a b:Int):decide ((Sum.inl a:Key)=Sum.inl b)=(a == b):=by
  by_cases e:a=b
  · subst e;simp
  · have h:¬ (Sum.inl a:Key)=Sum.inl b:=fun q=>e (Sum.inl.inj q)
    rw [decide_eq_false h]
    exact (beq_eq_false_iff_ne.mpr e).symm
theorem Oy (a b:Str):decide ((Sum.inr a:Key)=Sum.inr b)=decide (a=b):=by
  by_cases e:a=b
  · subst e;simp
  · have h:¬ (Sum.inr a:Key)=Sum.inr b:=fun q=>e (Sum.inr.inj q)
    rw [decide_eq_false h,decide_eq_false e]
theorem OG (a:Int) (b:Str):decide ((Sum.inl a:Key)=Sum.inr b)=false:=decide_eq_false (fun q=>nomatch q)
theorem OK (a:Str) (b:Int):decide ((Sum.inr a:Key)=Sum.inl b)=false:=decide_eq_false (fun q=>nomatch q)
def Qt (prog:Program) (w:World):PySem.KeyKind prog w Key where
  is:=JU
  hash:=Rg w
  inj:=fun v a b ha hb=>by
    rcases QL ha with ⟨i,t,rfl,rfl⟩ | ⟨x,t,rfl,rfl⟩
    · rcases QL hb with ⟨j,u,rfl,e⟩ | ⟨y,u,rfl,e⟩
      · injection e with e1 _;rw [e1]
      · exact nomatch e
    · rcases QL hb with ⟨j,u,rfl,e⟩ | ⟨y,u,rfl,e⟩
      · exact nomatch e
      · injection e with e1 _;rw [e1]
  byValue:=fun k v h=>by
    rcases QL h with ⟨i,t,rfl,rfl⟩ | ⟨x,t,rfl,rfl⟩ <;> rfl
  pyHash:=fun hv h=>by
    rcases QL hv with ⟨i,t,rfl,rfl⟩ | ⟨x,t,rfl,rfl⟩
    · exact wpAny_pyHash_int h
    · exact wpAny_pyHash_str h
  eqBool:=fun hu hv h=>by
    rcases QL hu with ⟨i,t,rfl,rfl⟩ | ⟨x,t,rfl,rfl⟩
    · rcases QL hv with ⟨j,u,rfl,rfl⟩ | ⟨y,u,rfl,rfl⟩
      · rw [Oa] at h;exact wpAny_eqBool_int h
      · rw [OG] at h;exact SeqAt.EqAt.int_str i t y u _ _ _ _ h
    · rcases QL hv with ⟨j,u,rfl,rfl⟩ | ⟨y,u,rfl,rfl⟩
      · rw [OK] at h;exact SeqAt.EqAt.str_int x t j u _ _ _ _ h
      · rw [Oy] at h;exact wpAny_eqBool_str h
  «strs»:=fun k x t v h=>by
    rcases QL h with ⟨i,u,rfl,e⟩ | ⟨y,u,rfl,e⟩
    · exact nomatch e
    · injection e with e1 _
      subst e1
      cases v <;> rfl
theorem Wd (prog:Program) (w:World) (i:Int) (t:Tok):(Qt prog w).is (.inl i) (.int i t)=true:=Gp i t
theorem XV (prog:Program) (w:World) (x:Str) (t:Tok):(Qt prog w).is (.inr x) (.str x t)=true:=Go x t
end L2
namespace L2
open PySem PySem.Spec PyProof.Rows
inductive V where
  | non | bl (b:Bool) | int (i:Int) | str (x:Str) | byt (b:Array UInt8) | flt (b:UInt64) | ref (a:Addr) | ty (n:String)
  deriving DecidableEq
def RelV:V→Value→Prop
  | .non,u=>u=Value.none
  | .bl b,u=>u=Value.bool b
  | .int i,u=>∃ t,u=Value.int i t
  | .str x,u=>∃ t,u=Value.str x t
  | .byt b,u=>∃ t,u=Value.bytes b t
  | .flt b,u=>∃ t,u=Value.float b t
  | .ref a,u=>u=Value.ref a
  | .ty n,u=>u=Value.type n
abbrev Vals:List V→List Value→Prop:=Paired RelV
theorem Vals.length {xs:List V} {us:List Value} (r:Vals xs us):xs.length=us.length:=Paired.length r
theorem Vals.get:∀ {xs:List V} {us:List Value} {i:Nat} {x:V},Vals xs us→xs[i]?=some x→∃ u,us[i]?=some u∧RelV x u
  | _,_,_,_,.nil,e=>by simp at e
  | _,_,0,_,.cons r _,e=>by simp at e;subst e;exact ⟨_,rfl,r⟩
  | _,_,i + 1,x,.cons _ t,e=>by
    obtain ⟨u,h1,h2⟩:=Vals.get (i:=i) (x:=x) t (by simpa using e)
    exact ⟨u,by simpa using h1,h2⟩
theorem Vals.set {x:V} {u:Value} (r:RelV x u):∀ {xs:List V} {us:List Value} (i:Nat),Vals xs us→Vals (xs.set i x) (us.set i u)
  | _,_,_,.nil=>.nil
  | _,_,0,.cons _ t=>.cons r t
  | _,_,i + 1,.cons q t=>.cons q (Vals.set r i t)
theorem Vals.append:∀ {xs ys:List V} {us ws:List Value},Vals xs us→Vals ys ws→Vals (xs ++ ys) (us ++ ws)
  | _,_,_,_,.nil,s=>s
  | _,_,_,_,.cons r t,s=>.cons r (Vals.append t s)
theorem Vals.take:∀ {xs:List V} {us:List Value} (n:Nat),Vals xs us→Vals (xs.take n) (us.take n)
  | _,_,0,_=>.nil
  | _,_,_ + 1,.nil=>.nil
  | _,_,n + 1,.cons r t=>.cons r (Vals.take n t)
theorem Vals.drop:∀ {xs:List V} {us:List Value} (n:Nat),Vals xs us→Vals (xs.drop n) (us.drop n)
  | _,_,0,r=>r
  | _,_,_ + 1,.nil=>.nil
  | _,_,n + 1,.cons _ t=>Vals.drop n t
def RelO:Option V→Option Value→Prop
  | some v,some u=>RelV v u
  | none,none=>True
  | _,_=>False
def KV {κ:Type}:List (κ × V)→List (κ × Value)→Prop:=Paired fun (p:κ × V) (q:κ × Value)=>p.1=q.1∧RelV p.2 q.2
def kV:Key→V
  | .inl i=>.int i
  | .inr x=>.str x
inductive HO where
  /-- a list -/
  | lst (xs:List V)
  /-- a tuple (never changes) -/
  | tup (xs:List V)
  /-- a dict whose keys are ints and texts;one whose keys are tuples of ints and texts (the empty one is both) -/
  | dK (kvs:List (Key × V)) | dT (kvs:List (List Key × V))
  /-- a set of ints: its members,its size -/
  | set (S:Int→Bool) (n:Nat)
  /-- an instance of the class at C,its dict at dx,its attributes -/
  | ins (C dx:Addr) (fs:List (Str × V))
  /-- the dict of the instance at x -/
  | own (x:Addr)
  /-- the dict of an exception -/
  | xd (fs:List (Str × V))
  /-- a bound method,f of x -/
  | met (f x:Addr)
  /-- a range object lo,lo + 1,.. below hi -/
  | rng (lo hi:Int)
  /-- a thing that is known to the object (the script;a dict while a loop walks it): read,never written while it is so -/
  | frz (o:Obj) (u:HO)
  /-- a code object's table -/
  | tbl (ps:Array Value)
  /-- any other thing,by what is true of its one object (a def of one's own: SetO a S n:=HO.ext fun h=>..) -/
  | ext (φ:Heap→Prop)
abbrev Hp:=Addr→Option HO
def upd (H:Hp) (a:Addr) (o:HO):Hp:=fun b=>if b=a then some o else H b
theorem Qb {H:Hp} {a:Addr} {o:HO}:upd H a o a=some o:=by unfold upd;rw [if_pos rfl]
theorem Qg {H:Hp} {a b:Addr} {o:HO} (h:b≠a):upd H a o b=H b:=by unfold upd;rw [if_neg h]
theorem QK {H:Hp} {a b:Addr} {o u:HO} (h:H a=some o) (h':H b=some u) (d:o≠u):a≠b:=by
  intro e;subst e;rw [h] at h';exact d (Option.some.inj h')
theorem Qh {H:Hp} {a b:Addr} {o:HO} (h:H a=some o) (h':H b=none):a≠b:=by
  intro e;subst e;rw [h] at h';cases h'
section
variable (P:Program) (w:World)
def ObjOk (H:Hp) (h:Heap) (a:Addr):HO→Prop
  | .lst xs=>xs.length≤sizeLine∧∃ (its:List Value) (n:Nat),Vals xs its∧h.get? a=some { cls:=.type "list", data:=.seq its.toArray n }
  | .tup xs=>xs.length≤sizeLine∧∃ its:List Value,Vals xs its∧IsTup h a its.toArray
  | .dK kvs=>kvs.length≤sizeLine∧(a == sysModules)=false∧∃ vs,KV kvs vs∧h.DictOf (Qt P w) a vs
  | .dT kvs=>kvs.length≤sizeLine∧(a == sysModules)=false∧∃ xs:List (List Key × Addr × Value),
      Paired (fun (p:List Key × V) (q:List Key × Addr × Value)=>p.1=q.1∧H q.2.1=some (.tup (p.1.map kV))∧RelV p.2 q.2.2) kvs xs ∧
      ∃ o es ep,h.get? a=some o∧o.ExactDict∧o.data=.dict es ep∧es.toList=xs.map (entryOfKey (tupleKind (Qt P w)))∧(xs.map (·.1)).Nodup
  | .set S n=>h.SetOf (intKind P w) a S n
  | .ins C dx fs=>H dx=some (.own a)∧fs.length≤1000∧dx≠a∧h.get? a=some (PySem.W.instObj C dx) ∧
      ∃ mA,h.Ns1 dx mA∧(∀ f,RelO (fs.lookup f) (mA f))∧PySem.Within mA (fs.map (·.1))
  | .own _=>∃ o,h.get? a=some o
  | .xd fs=>∃ mA,h.Ns1 a mA∧∀ f,RelO (fs.lookup f) (mA f)
  | .rng lo hi=>∃ t u v,h.get? a=some { cls:=.type "range", data:=.fields #[.int lo t,.int hi u,.int 1 v] }
  | .frz o u=>h.get? a=some o∧ObjOk H h a u
  | .tbl ps=>h.get? a=some { cls:=.none,data:=.fields ps }
  | .met f x=>h.get? a=some (PySem.W.methodObj (.ref f) (.ref x))
  | .ext φ=>φ h∧(∃ o,h.get? a=some o)∧∀ h1 h2:Heap,φ h1→(∀ o,h1.get? a=some o→h2.get? a=some o)→φ h2
def HOk (H:Hp) (h:Heap):Prop:=∀ a o,H a=some o→ObjOk P w H h a o
end
section
variable {P:Program} {w:World} {H H':Hp} {h h':Heap} {a:Addr} {o:HO}
theorem ObjOk.lt (x:ObjOk P w H h a o):a < h.objs.size:=by
  cases o with
  | lst xs=>obtain ⟨_,_,_,_,e⟩:=x;exact Heap.lt_size e
  | tup xs=>obtain ⟨_,_,_,p⟩:=x;exact p.lt
  | dK kvs=>obtain ⟨_,_,_,_,o,_,_,e,_⟩:=x;exact Heap.lt_size e
  | dT kvs=>obtain ⟨_,_,_,_,o,_,_,e,_⟩:=x;exact Heap.lt_size e
  | set S n=>obtain ⟨o,_,_,_,e,_⟩:=x;exact Heap.lt_size e
  | ins C dx fs=>obtain ⟨_,_,_,e,_⟩:=x;exact Heap.lt_size e
  | own y=>obtain ⟨_,e⟩:=x;exact Heap.lt_size e
  | xd fs=>obtain ⟨_,⟨_,_,_,e,_⟩,_⟩:=x;exact Heap.lt_size e
  | rng lo hi=>obtain ⟨_,_,_,e⟩:=x;exact Heap.lt_size e
  | frz ob u=>obtain ⟨e,_⟩:=x;exact Heap.lt_size e
  | tbl ps=>exact Heap.lt_size (show h.get? a=some _ from x)
  | met f y=>exact Heap.lt_size (show h.get? a=some _ from x)
  | ext φ=>obtain ⟨_,⟨_,e⟩,_⟩:=x;exact Heap.lt_size e
theorem Paired.mapP {α β:Type} {F G:α→β→Prop}:∀ {l₁:List α} {l₂:List β},Paired F l₁ l₂→(∀ a b,F a b→G a b)→Paired G l₁ l₂
  | _,_,.nil,_=>.nil
  | _,_,.cons r t,f=>.cons (f _ _ r) (Paired.mapP t f)
theorem ObjOk.stay (x:ObjOk P w H h a o) (k:∀ b u,(b=a∨H b=some (.own a))→h.get? b=some u→h'.get? b=some u)
    (ho:∀ b,H b=some (.own a)→H' b=some (.own a)) (ht:∀ b xs,H b=some (.tup xs)→H' b=some (.tup xs)):ObjOk P w H' h' a o:=by
  induction o with
  | lst xs=>obtain ⟨z,its,n,r,e⟩:=x;exact ⟨z,its,n,r,k _ _ (.inl rfl) e⟩
  | tup xs=>obtain ⟨z,its,r,ob,e,c⟩:=x;exact ⟨z,its,r,ob,k _ _ (.inl rfl) e,c⟩
  | dK kvs=>obtain ⟨z,y,vs,r,ob,es,ep,e,c⟩:=x;exact ⟨z,y,vs,r,ob,es,ep,k _ _ (.inl rfl) e,c⟩
  | dT kvs =>
    obtain ⟨z,y,xs,r,ob,es,ep,e,c⟩:=x
    exact ⟨z,y,xs,Paired.mapP r fun p q z=>⟨z.1,ht _ _ z.2.1,z.2.2⟩,ob,es,ep,k _ _ (.inl rfl) e,c⟩
  | set S n=>obtain ⟨ob,es,ep,t,e,c⟩:=x;exact ⟨ob,es,ep,t,k _ _ (.inl rfl) e,c⟩
  | ins C dx fs =>
    obtain ⟨d,z,ne,e,mA,⟨od,es,ep,e2,c⟩,r⟩:=x
    exact ⟨ho _ d,z,ne,k _ _ (.inl rfl) e,mA,⟨od,es,ep,k _ _ (.inr d) e2,c⟩,r⟩
  | own y=>obtain ⟨ob,e⟩:=x;exact ⟨ob,k _ _ (.inl rfl) e⟩
  | xd fs=>obtain ⟨mA,⟨od,es,ep,e,c⟩,r⟩:=x;exact ⟨mA,⟨od,es,ep,k _ _ (.inl rfl) e,c⟩,r⟩
  | rng lo hi=>obtain ⟨t,u,v,e⟩:=x;exact ⟨t,u,v,k _ _ (.inl rfl) e⟩
  | frz ob u ih=>obtain ⟨e,q⟩:=x;exact ⟨k _ _ (.inl rfl) e,ih q⟩
  | tbl ps =>
    have e:h.get? a=some { cls:=.none,data:=.fields ps }:=x
    show h'.get? a=some { cls:=.none,data:=.fields ps }
    exact k a _ (.inl rfl) e
  | met f y =>
    have e:h.get? a=some (PySem.W.methodObj (.ref f) (.ref y)):=x
    show h'.get? a=some (PySem.W.methodObj (.ref f) (.ref y))
    exact k a _ (.inl rfl) e
  | ext φ=>obtain ⟨p,⟨o,e⟩,st⟩:=x;exact ⟨st _ _ p fun o q=>k _ _ (.inl rfl) q,⟨o,k _ _ (.inl rfl) e⟩,st⟩
theorem HOk.lt (x:HOk P w H h) (e:H a=some o):a < h.objs.size:=(x a o e).lt
theorem HOk.fresh (x:HOk P w H h) (e:h.objs.size≤a):H a=none:=by
  cases q:H a with
  | none=>rfl
  | some u=>exact absurd (Nat.lt_of_lt_of_le (x.lt q) e) (Nat.lt_irrefl _)
theorem HOk.kept (x:HOk P w H h) (k:∀ b u,h.get? b=some u→h'.get? b=some u):HOk P w H h':=fun a o e =>
  (x a o e).stay (fun b u _ q=>k b u q) (fun _ q=>q) fun _ _ q=>q
theorem HOk.laid (x:HOk P w H h) (k:∀ b u,h.get? b=some u→h'.get? b=some u) (hp:h.objs.size≤a) (new:ObjOk P w (upd H a o) h' a o):HOk P w (upd H a o) h':=fun b u e=>by
  have hn:=x.fresh hp
  by_cases hb:b=a
  · subst hb;rw [Qb] at e;cases e;exact new
  · rw [Qg hb] at e
    exact (x b u e).stay (fun c v _ q=>k c v q) (fun c q=>by rw [Qg (Qh q hn)];exact q) fun c xs q=>by rw [Qg (Qh q hn)];exact q
end
def Rd (H:Hp) (a:Addr) (u:HO):Prop:=H a=some u∨∃ o,H a=some (.frz o u)
theorem Rd.ok {P:Program} {w:World} {H:Hp} {h:Heap} {a:Addr} {u:HO} (r:Rd H a u) (x:HOk P w H h):ObjOk P w H h a u:=by
  rcases r with r | ⟨o,r⟩
  · exact x a u r
  · obtain ⟨_,q⟩:=x a _ r
    exact q
def Mut:Option HO→Prop
  | some (.lst _)=>True
  | some (.dK _)=>True
  | some (.dT _)=>True
  | some (.set _ _)=>True
  | some (.ins _ _ _)=>True
  | some (.ext _)=>True
  | _=>False
section
variable {P:Program} {w:World} {H:Hp} {h h':Heap} {x e:Addr} {o':HO}
theorem HOk.write (ok:HOk P w H h) (mu:Mut (H x)) (he:e=x∨H e=some (.own x)) (k:∀ b u,b≠e→h.get? b=some u→h'.get? b=some u) (heo:∃ u,h'.get? e=some u)
    (new:ObjOk P w (upd H x o') h' x o'):HOk P w (upd H x o') h':=fun b u q=>by
  have nown:∀ c y,H c=some (.own y)→c≠x:=fun c y r z=>by subst z;rw [r] at mu;exact mu
  have ntup:∀ c xs,H c=some (.tup xs)→c≠x:=fun c xs r z=>by subst z;rw [r] at mu;exact mu
  by_cases hb:b=x
  · subst hb;rw [Qb] at q;cases q;exact new
  · rw [Qg hb] at q
    by_cases hbe:b=e
    · have q':H b=some (.own x):=by
        rcases he with z | z
        · exact absurd (hbe.trans z) hb
        · rw [hbe];exact z
      rw [q] at q';cases q'
      obtain ⟨v,hv⟩:=heo
      exact ⟨v,by rw [hbe];exact hv⟩
    · refine (ok b u q).stay (fun c v hc r=>k c v ?_ r) (fun c r=>by rw [Qg (nown c b r)];exact r) fun c xs r=>by rw [Qg (ntup c xs r)];exact r
      rcases hc with rfl | hc
      · exact hbe
      · rintro rfl
        rcases he with z | z
        · exact nown c b hc z
        · rw [hc] at z;cases z;exact hb rfl
end
structure Un (fs ex:List Addr) (H H':Hp) (h h':Heap):Prop where
  keep:∀ b o,h.get? b=some o→H b=none→b ∉ fs→b ∉ ex→h'.get? b=some o
  slot:∀ b o,h.get? b=some o→H b=none→b ∈ fs→b ∉ ex→∃ sl,h'.get? b=some { o with slots:=sl }
  free:∀ b o,h.get? b=some o→H b=none→b ∉ ex→H' b=none
  there:∀ b o,h.get? b=some o→b ∉ ex→∃ o',h'.get? b=some o'
  tups:∀ b xs,H b=some (.tup xs)→H' b=some (.tup xs)
  frzs:∀ b o u,H b=some (.frz o u)→H' b=some (.frz o u)
  tbls:∀ b ps,H b=some (.tbl ps)→∃ more,H' b=some (.tbl (ps ++ more))
section
variable {fs fs' ex ex':List Addr} {H H1 H2:Hp} {h h1 h2 h':Heap} {a x e:Addr} {o:HO}
theorem Un.any (u:Un fs ex H H1 h h1) {b:Addr} {ob:Obj} (q:h.get? b=some ob) (n:H b=none) (hx:b ∉ ex):∃ sl,h1.get? b=some { ob with slots:=sl }:=by
  by_cases hb:b ∈ fs
  · exact u.slot b ob q n hb hx
  · exact ⟨ob.slots,u.keep b ob q n hb hx⟩
theorem Un.kept (k:∀ b u,h.get? b=some u→h'.get? b=some u):Un fs ex H H h h' :=
  ⟨fun b ob q _ _ _=>k b ob q,fun b ob q _ _ _=>⟨ob.slots,k b ob q⟩,fun _ _ _ n _=>n,fun b ob q _=>⟨ob,k b ob q⟩,fun _ _ q=>q,fun _ _ _ q=>q,fun _ ps q=>⟨#[],by rw [q];simp⟩⟩
theorem Un.refl:Un fs ex H H h h:=Un.kept fun _ _ q=>q
theorem Un.laid (k:∀ b u,h.get? b=some u→h'.get? b=some u) (hp:h.objs.size≤a) (hn:H a=none):Un fs ex H (upd H a o) h h' where
  keep:=fun b u q _ _ _=>k b u q
  slot:=fun b u q _ _ _=>⟨u.slots,k b u q⟩
  free:=fun b u q n _=>by rw [Qg (Nat.ne_of_lt (Nat.lt_of_lt_of_le (Heap.lt_size q) hp))];exact n
  there:=fun b u q _=>⟨u,k b u q⟩
  tups:=fun b xs q=>by rw [Qg (Qh q hn)];exact q
  frzs:=fun b u xs q=>by rw [Qg (Qh q hn)];exact q
  tbls:=fun b ps q=>⟨#[],by rw [Qg (Qh q hn),q];simp⟩
theorem Un.write (mu:Mut (H x)) (he:e=x∨H e=some (.own x)) (k:∀ b u,b≠e→h.get? b=some u→h'.get? b=some u) (heo:∃ u,h'.get? e=some u):Un fs ex H (upd H x o) h h':=by
  have hx:∀ b,H b=none→b≠x:=fun b n z=>by subst z;rw [n] at mu;exact mu
  have hb:∀ b,H b=none→b≠e:=fun b n z=>by
    subst z
    rcases he with r | r
    · exact hx b n r
    · rw [n] at r;cases r
  have hm:∀ b u,H b=some u→¬ Mut (some u)→b≠x:=fun b u q nm z=>by subst z;rw [q] at mu;exact nm mu
  refine ⟨fun b u q n _ _=>k b u (hb b n) q,fun b u q n _ _=>⟨u.slots,k b u (hb b n) q⟩,fun b u q n _=>by rw [Qg (hx b n)];exact n,fun b u q _=>?_,
    fun b xs q=>by rw [Qg (hm b _ q fun z=>z)];exact q,fun b u xs q=>by rw [Qg (hm b _ q fun z=>z)];exact q,fun b ps q=>⟨#[],by rw [Qg (hm b _ q fun z=>z),q];simp⟩⟩
  by_cases hbe:b=e
  · subst hbe;exact heo
  · exact ⟨u,k b u hbe q⟩
end
def trk (h:Heap) (H:Hp):List Addr:=(List.range h.objs.size).filter fun a=>(H a).isSome
def Ys (h:Heap) (H:Hp):Heap:=PySem.W.hideAll h (trk h H)
theorem JS (h:Heap) (H:Hp):(Ys h H).objs.size=h.objs.size:=PySem.W.hideAll_size _ _
theorem Wh {h:Heap} {H:Hp} {b:Addr} {o:Obj} (e:h.get? b=some o) (n:H b=none):(Ys h H).get? b=some o :=
  PySem.W.hideAll_get _ e fun hm=>by
    have q:(H b).isSome=true:=(List.mem_filter.mp hm).2
    rw [n] at q;simp at q
theorem Vd {h:Heap} {H:Hp} {b:Addr} {o:Obj} (e:(Ys h H).get? b=some o):h.get? b=some o∧H b=none:=by
  have e':h.get? b=some o:=PySem.W.of_hideAll (trk h H) e
  refine ⟨e',?_⟩
  cases q:H b with
  | none=>rfl
  | some x =>
    have hm:b ∈ trk h H:=List.mem_filter.mpr ⟨List.mem_range.mpr (Heap.lt_size e'),by simp [q]⟩
    have z:(Ys h H).get? b=none:=PySem.W.hideAll_none (trk h H) hm
    rw [z] at e;cases e
def Nf (g h:Heap) (L:Addr):List (Addr × Obj):=(List.range h.objs.size).filterMap fun a=>if a=L∨(g.get? a).isSome=true then none else (h.get? a).map fun o=>(a,o)
def rest (g h:Heap) (L d:Addr):List (Addr × Obj):=(Nf g h L).filter fun p=>decide (p.1≠d)
end L2
namespace L2
open PySem PySem.Spec PyProof.Rows
structure Mod (K:PySem.W.Frag) (mg:Str→Option Value) (base:Heap):Prop where
  kin:K.In base
  glob:base.Ns mainGlobals mg
  blt:∃ mb,base.Ns builtinsNs mb∧∀ x:Str,x ≠ "__name__" → mb x=bootBuiltins x
  nolimit:base.NoLimit
structure Cx where
  prog:Program
  w:World
  K:PySem.W.Frag
  mg:Str→Option Value
  base:Heap
  A:Around
  N:List Str
  s₀:Shared
  H₀:Hp
  env:Env
  outer:List Env
  stack:List Env
  ex:List Addr
  fn:Str→Bool
  calm:Bool
  pn:List (Addr × Obj)
  xe:Value→Shared→Prop
def frs (l:List Env):List Addr:=l.filterMap (·.frame)
abbrev Cx.fs (X:Cx):List Addr:=frs X.outer
def Vis (sc:Scope) (x:Str):Prop:=sc.names.lookup x=some .local∨sc.names.lookup x=some .cell∨sc.names.lookup x=some .free
def Loc (sc:Scope) (x:Str):Prop:=sc.names.lookup x=some .local∨sc.names.lookup x=some .cell
def P0 (env:Env) (h:Heap) (m:Str→Option Value) (x:Str) (u:Value):Prop :=
  (env.kindOf x=some .local∧m x=some u)∨((env.kindOf x=some .cell∨env.kindOf x=some .free)∧∃ c,env.cells.lookup x=some c∧h.IsCell c (some u))
structure Cx.Ok (X:Cx):Prop where
  mod:Mod X.K X.mg X.base
  kind:X.env.scope.kind=.function
  glob:X.env.globals=mainGlobals
  blt:X.env.builtins=builtinsNs
  above:X.s₀.heap.objs.size≤X.env.locals
  inj:∀ x y c,X.env.cells.lookup x=some c→X.env.cells.lookup y=some c→x=y
  has:∀ x,(X.env.kindOf x=some .cell∨X.env.kindOf x=some .free)→∃ c,X.env.cells.lookup x=some c
  cab:∀ x c,X.fn x=true→X.env.cells.lookup x=some c→X.s₀.heap.objs.size≤c
  hd:X.calm=true→X.A.handled=none
  frames:X.A.frames=some X.stack
  stk:X.stack=X.outer∨(X.stack=X.env :: X.outer∧X.env.frame=some X.env.locals)
  exf:∀ b ∈ X.ex,b≠X.env.locals∧∀ x c,X.env.cells.lookup x=some c→c≠b
  bs:∀ b o,X.base.get? b=some o→X.s₀.heap.get? b=some o∧X.H₀ b=none
  bsz:X.base.objs.size≤X.s₀.heap.objs.size
  noex:∀ b o,X.base.get? b=some o→b ∉ X.ex
  exfs:∀ b ∈ X.ex,b ∉ X.fs
  funs:X.s₀.heap.FunFrames X.base X.outer
  frf:∀ b ∈ X.fs,X.H₀ b=none
structure Inv (X:Cx) (pins:List (Addr × Obj)) (σ:List (Option V)) (H:Hp) (s:Shared):Prop where
  ok:X.Ok
  os:s.os=X.s₀.os
  bare:AllBare s.gens
  base:Un X.fs X.ex X.H₀ H X.s₀.heap s.heap
  loc:∃ m,s.heap.Ns X.env.locals m∧∀ (i:Nat) (x:Str) (v:V),X.N[i]?=some x→σ[i]?=some (some v)→Vis X.env.scope x→∃ u,RelV v u∧P0 X.env s.heap m x u
  cell:∀ x c,X.env.cells.lookup x=some c→∃ v,s.heap.IsCell c v
  free:H X.env.locals=none
  freeC:∀ x c,X.env.cells.lookup x=some c→H c=none
  pin:∀ p ∈ X.pn ++ pins,s.heap.get? p.1=some p.2∧H p.1=none∧p.1≠X.env.locals∧p.1 ∉ X.fs∧∀ v,p.2.data≠.cell v
  hok:HOk X.prog X.w H s.heap
  len:σ.length=X.N.length
section
variable {X:Cx} {pins:List (Addr × Obj)} {σ:List (Option V)} {H H':Hp} {s:Shared} {h':Heap}
theorem Cx.Ok.nofr (ok:X.Ok) {b:Addr} {o:Obj} (e:X.base.get? b=some o):b ∉ X.fs:=fun hb=>by
  have:=(ok.funs.mem hb).1
  rw [e] at this;cases this
theorem Inv.bs (I:Inv X pins σ H s):∀ b o,X.base.get? b=some o→s.heap.get? b=some o∧H b=none:=fun b o e =>
  ⟨I.base.keep b o (I.ok.bs b o e).1 (I.ok.bs b o e).2 (I.ok.nofr e) (I.ok.noex b o e),I.base.free b o (I.ok.bs b o e).1 (I.ok.bs b o e).2 (I.ok.noex b o e)⟩
theorem Inv.bk (I:Inv X pins σ H s):∀ b o,X.base.get? b=some o→s.heap.get? b=some o:=fun b o e=>(I.bs b o e).1
theorem Inv.mod (I:Inv X pins σ H s):Mod X.K X.mg X.base:=I.ok.mod
theorem Inv.kIn (I:Inv X pins σ H s):X.K.In s.heap:=I.ok.mod.kin.keeps I.bk
theorem Inv.lt (I:Inv X pins σ H s):X.env.locals < s.heap.objs.size:=let ⟨_,hn,_⟩:=I.loc;hn.lt
theorem Inv.sz (I:Inv X pins σ H s):X.s₀.heap.objs.size≤s.heap.objs.size:=Nat.le_trans I.ok.above (Nat.le_of_lt I.lt)
theorem Inv.nofs (I:Inv X pins σ H s) {a:Addr} (h:s.heap.objs.size≤a):a ∉ X.fs:=fun hb=>by
  obtain ⟨_,o,ho,_⟩:=I.ok.funs.mem hb
  exact absurd (Nat.lt_of_lt_of_le (Heap.lt_size ho) (Nat.le_trans I.sz h)) (Nat.lt_irrefl _)
theorem Inv.cne (I:Inv X pins σ H s):∀ x c,X.env.cells.lookup x=some c→c≠X.env.locals:=fun x c e z=>by
  obtain ⟨v,o,ho,hd⟩:=I.cell x c e
  obtain ⟨m,⟨o',es,ep,ho',hd',_⟩,_⟩:=I.loc
  rw [z,ho'] at ho;cases ho;rw [hd'] at hd;cases hd
theorem Inv.funs (I:Inv X pins σ H s):s.heap.FunFrames X.base X.outer:=by
  have all:∀ (l:List Env),(∀ b ∈ frs l,b ∈ X.fs)→X.s₀.heap.FunFrames X.base l→s.heap.FunFrames X.base l:=by
    intro l
    induction l with
    | nil=>intro _ _;trivial
    | cons env r ih =>
      intro hs hl
      obtain ⟨hk,⟨L,o,hf,hn,ho,hd⟩,hr⟩:=hl
      have hL:L ∈ X.fs:=hs L (by unfold frs;rw [List.filterMap_cons,hf];exact List.mem_cons_self)
      obtain ⟨sl,e⟩:=I.base.slot L o ho (I.ok.frf L hL) hL fun z=>I.ok.exfs L z hL
      exact ⟨hk,⟨L,_,hf,hn,e,hd⟩,ih (fun b hb=>hs b (by unfold frs;rw [List.filterMap_cons,hf];exact List.mem_cons_of_mem _ hb)) hr⟩
  exact all X.outer (fun _ hb=>hb) I.ok.funs
theorem Inv.stack (I:Inv X pins σ H s):s.heap.FunFrames X.base X.stack:=by
  rcases I.ok.stk with e | ⟨e,hf⟩
  · rw [e];exact I.funs
  · rw [e]
    obtain ⟨m,hn,_⟩:=I.loc
    refine .cons (by rw [I.ok.kind];decide) hf hn ?_ I.funs
    exact Heap.get?_none_of_le (Nat.le_trans I.ok.bsz I.ok.above)
theorem Inv.stkSub (I:Inv X pins σ H s):∀ b ∈ frs X.stack,b ∈ X.env.locals :: X.fs:=fun b hb=>by
  rcases I.ok.stk with e | ⟨e,hf⟩
  · rw [e] at hb;exact List.mem_cons_of_mem _ hb
  · rw [e] at hb
    unfold frs at hb
    rw [List.filterMap_cons,hf] at hb
    exact hb
theorem Inv.stkFree (I:Inv X pins σ H s):∀ b ∈ frs X.stack,H b=none:=fun b hb=>by
  rcases List.mem_cons.mp (I.stkSub b hb) with e | hb
  · rw [e];exact I.free
  · obtain ⟨_,o,ho,_⟩:=I.ok.funs.mem hb
    exact I.base.free b o ho (I.ok.frf b hb) fun z=>I.ok.exfs b z hb
theorem Inv.step {g':Array GenState} {t':Nat} {d':Drawn} {ch:List Addr} (I:Inv X pins σ H s)
    (hch:∀ b ∈ ch,(b ∈ X.ex∨X.s₀.heap.objs.size≤b)∧b≠X.env.locals∧(∀ x c,X.env.cells.lookup x=some c→c≠b)∧∀ p ∈ X.pn ++ pins,p.1≠b)
    (keep:∀ b o,b≠X.env.locals→b ∉ X.fs→b ∉ ch→s.heap.get? b=some o→H b=none→h'.get? b=some o)
    (slot:∀ b o,b≠X.env.locals→b ∈ X.fs→b ∉ ch→s.heap.get? b=some o→H b=none→∃ sl,h'.get? b=some { o with slots:=sl }) (free:∀ b o,b ∉ ch→s.heap.get? b=some o→H b=none→H' b=none)
    (there:∀ b o,b ∉ ch→s.heap.get? b=some o→∃ o',h'.get? b=some o')
    (tups:∀ b xs,H b=some (.tup xs)→H' b=some (.tup xs)) (frzs:∀ b o u,H b=some (.frz o u)→H' b=some (.frz o u)) (tbls:∀ b ps,H b=some (.tbl ps)→∃ more,H' b=some (.tbl (ps ++ more)))
    (ns:∀ m,s.heap.Ns X.env.locals m→h'.Ns X.env.locals m) (hok:HOk X.prog X.w H' h') (hg:AllBare g') :
    Inv X pins σ H' { s with heap:=h',gens:=g',drawn:=d',toks:=t' }:=by
  have neL:∀ b o,X.s₀.heap.get? b=some o→b≠X.env.locals:=fun b o e=>Nat.ne_of_lt (Nat.lt_of_lt_of_le (Heap.lt_size e) I.ok.above)
  have neC:∀ b o,X.s₀.heap.get? b=some o→b ∉ X.ex→b ∉ ch:=fun b o e hx hb=>by
    rcases (hch b hb).1 with z | z
    · exact hx z
    · exact absurd (Nat.lt_of_lt_of_le (Heap.lt_size e) z) (Nat.lt_irrefl _)
  have cellK:∀ x c,X.env.cells.lookup x=some c→∀ v,s.heap.IsCell c v→h'.IsCell c v:=fun x c e v ⟨o,ho,hd⟩=>by
    have nch:c ∉ ch:=fun z=>(hch c z).2.2.1 x c e rfl
    by_cases hc:c ∈ X.fs
    · obtain ⟨sl,q⟩:=slot c o (I.cne x c e) hc nch ho (I.freeC x c e)
      exact ⟨_,q,hd⟩
    · exact ⟨o,keep c o (I.cne x c e) hc nch ho (I.freeC x c e),hd⟩
  refine ⟨I.ok,I.os,hg,⟨fun b o e n hb hx=>?_,fun b o e n hb hx=>?_,fun b o e n hx=>?_,fun b o e hx=>?_,fun b xs e=>tups b xs (I.base.tups b xs e),fun b o xs e=>frzs b o xs (I.base.frzs b o xs e),fun b ps e=>?_⟩,?_,fun x c e=>?_,?_,fun x c e=>?_,fun p hp=>?_,hok,I.len⟩
  · exact keep b o (neL b o e) hb (neC b o e hx) (I.base.keep b o e n hb hx) (I.base.free b o e n hx)
  · obtain ⟨sl,e1⟩:=I.base.slot b o e n hb hx
    obtain ⟨sl',e2⟩:=slot b _ (neL b o e) hb (neC b o e hx) e1 (I.base.free b o e n hx)
    exact ⟨sl',e2⟩
  · obtain ⟨o',e1⟩:=I.base.there b o e hx
    exact free b o' (neC b o e hx) e1 (I.base.free b o e n hx)
  · obtain ⟨o',e1⟩:=I.base.there b o e hx
    exact there b o' (neC b o e hx) e1
  · obtain ⟨m1,e1⟩:=I.base.tbls b ps e
    obtain ⟨m2,e2⟩:=tbls b _ e1
    exact ⟨m1 ++ m2,by rw [e2,Array.append_assoc]⟩
  · obtain ⟨m,hn,hl⟩:=I.loc
    refine ⟨m,ns m hn,fun i x v e1 e2 e3=>?_⟩
    obtain ⟨u,r,l⟩:=hl i x v e1 e2 e3
    refine ⟨u,r,?_⟩
    rcases l with l | ⟨k,c,e,z⟩
    · exact .inl l
    · exact .inr ⟨k,c,e,cellK x c e _ z⟩
  · obtain ⟨v,z⟩:=I.cell x c e
    exact ⟨v,cellK x c e v z⟩
  · obtain ⟨m,⟨o,_,_,ho,_⟩,_⟩:=I.loc
    exact free _ o (fun z=>(hch _ z).2.1 rfl) ho I.free
  · obtain ⟨v,o,ho,hd⟩:=I.cell x c e
    exact free c o (fun z=>(hch c z).2.2.1 x c e rfl) ho (I.freeC x c e)
  · obtain ⟨e,n,ne,nf,d⟩:=I.pin p hp
    have nch:p.1 ∉ ch:=fun z=>(hch p.1 z).2.2.2 p hp rfl
    exact ⟨keep p.1 p.2 ne nf nch e n,free p.1 p.2 nch e n,ne,nf,d⟩
theorem Inv.un {t':Nat} (I:Inv X pins σ H s) (u:Un X.fs [] H H' s.heap h') (hok:HOk X.prog X.w H' h'):Inv X pins σ H' { s with heap:=h',toks:=t' }:=by
  obtain ⟨m,⟨o,es,ep,ho,r⟩,_⟩:=id I.loc
  obtain ⟨sl,hL⟩:=u.any ho I.free (by simp)
  exact I.step (g':=s.gens) (d':=s.drawn) (ch:=[]) (fun _ z=>nomatch z) (fun b o _ hb _ e n=>u.keep b o e n hb (by simp)) (fun b o _ hb _ e n=>u.slot b o e n hb (by simp)) (fun b o _ e n=>u.free b o e n (by simp)) (fun b o _ e=>u.there b o e (by simp)) u.tups u.frzs u.tbls (fun m' hm=>by
    obtain ⟨o',es',ep',ho',r'⟩:=hm
    rw [ho] at ho';cases ho'
    exact ⟨_,es',ep',hL,r'⟩) hok I.bare
theorem Inv.call {g':Array GenState} {t':Nat} {d':Drawn} {ch:List Addr} (I:Inv X pins σ H s) (u:Un (frs X.stack) ch H H' s.heap h') (hok:HOk X.prog X.w H' h') (hg:AllBare g')
    (hch:∀ b ∈ ch,(b ∈ X.ex∨X.s₀.heap.objs.size≤b)∧b≠X.env.locals∧(∀ x c,X.env.cells.lookup x=some c→c≠b)∧∀ p ∈ X.pn ++ pins,p.1≠b) :
    Inv X pins σ H' { s with heap:=h',gens:=g',drawn:=d',toks:=t' }:=by
  obtain ⟨m,⟨o,es,ep,ho,r⟩,_⟩:=id I.loc
  obtain ⟨sl,hL⟩:=u.any ho I.free fun z=>(hch _ z).2.1 rfl
  exact I.step (ch:=ch) hch (fun b o hL hb hc e n=>u.keep b o e n (fun z=>(List.mem_cons.mp (I.stkSub b z)).elim hL hb) hc) (fun b o _ _ hc e n=>u.any e n hc) (fun b o hc e n=>u.free b o e n hc) (fun b o hc e=>u.there b o e hc) u.tups u.frzs u.tbls (fun m' hm=>by
    obtain ⟨o',es',ep',ho',r'⟩:=hm
    rw [ho] at ho';cases ho'
    exact ⟨_,es',ep',hL,r'⟩) hok hg
theorem Inv.turned {t':Nat} {it:Addr} (I:Inv X pins σ H s) (k:∀ b o,b≠it→s.heap.get? b=some o→h'.get? b=some o) (hn:H it=none) (hL:it≠X.env.locals)
    (h1:it ∈ X.ex∨X.s₀.heap.objs.size≤it) (h2:∀ x c,X.env.cells.lookup x=some c→c≠it) (h3:∀ p ∈ X.pn ++ pins,p.1≠it):Inv X pins σ H { s with heap:=h',toks:=t' }:=by
  have nit:∀ b u,H b=some u→b≠it:=fun b u e z=>by rw [z,hn] at e;cases e
  refine I.step (g':=s.gens) (d':=s.drawn) (ch:=[it]) (fun b hb=>?_) (fun b o _ _ hc e _=>k b o (fun z=>hc (by simp [z])) e) (fun b o _ _ hc e _=>⟨o.slots,k b o (fun z=>hc (by simp [z])) e⟩) (fun _ _ _ _ n=>n)
    (fun b o hc e=>⟨o,k b o (fun z=>hc (by simp [z])) e⟩) (fun _ _ e=>e) (fun _ _ _ e=>e) (fun b ps e=>⟨#[],by rw [e];simp⟩) (fun m hm=>?_) (fun b u e=>?_) I.bare
  · have e:b=it:=by simpa using hb
    subst e
    exact ⟨h1,hL,h2,h3⟩
  · obtain ⟨o,es,ep,ho,r⟩:=hm
    exact ⟨o,es,ep,k _ o (Ne.symm hL) ho,r⟩
  · refine (I.hok b u e).stay (fun c v hc q=>k c v ?_ q) (fun _ q=>q) fun _ _ q=>q
    rcases hc with z | z
    · rw [z];exact nit b u e
    · exact nit c _ z
theorem Inv.tok (I:Inv X pins σ H s) (t:Nat):Inv X pins σ H { s with toks:=t }:=I.un (h':=s.heap) (t':=t) Un.refl I.hok
theorem Inv.kept {t':Nat} (I:Inv X pins σ H s) (k:∀ b u,s.heap.get? b=some u→h'.get? b=some u):Inv X pins σ H { s with heap:=h',toks:=t' }:=I.un (Un.kept k) (I.hok.kept k)
theorem Inv.laid {a:Addr} {o:HO} {t':Nat} (I:Inv X pins σ H s) (k:∀ b u,s.heap.get? b=some u→h'.get? b=some u) (hp:s.heap.objs.size≤a) (new:ObjOk X.prog X.w (upd H a o) h' a o) :
    Inv X pins σ (upd H a o) { s with heap:=h',toks:=t' }:=I.un (Un.laid k hp (I.hok.fresh hp)) (I.hok.laid k hp new)
theorem Inv.write {x e:Addr} {o:HO} {t':Nat} (I:Inv X pins σ H s) (mu:Mut (H x)) (he:e=x∨H e=some (.own x)) (k:∀ b u,b≠e→s.heap.get? b=some u→h'.get? b=some u) (heo:∃ u,h'.get? e=some u)
    (new:ObjOk X.prog X.w (upd H x o) h' x o):Inv X pins σ (upd H x o) { s with heap:=h',toks:=t' }:=I.un (Un.write mu he k heo) (I.hok.write mu he k heo new)
theorem Inv.pins_of {pins':List (Addr × Obj)} (I:Inv X pins σ H s) (h:∀ p ∈ pins',s.heap.get? p.1=some p.2∧H p.1=none∧p.1≠X.env.locals∧p.1 ∉ X.fs∧∀ v,p.2.data≠.cell v):Inv X pins' σ H s :=
  ⟨I.ok,I.os,I.bare,I.base,I.loc,I.cell,I.free,I.freeC,fun p hp=>(List.mem_append.mp hp).elim (fun z=>I.pin p (List.mem_append_left _ z)) (h p),I.hok,I.len⟩
theorem XU {N:List Str} (hN:N.Nodup) {i j:Nat} {x:Str} (a:N[i]?=some x) (b:N[j]?=some x):i=j:=by
  obtain ⟨h1,e1⟩:=List.getElem?_eq_some_iff.mp a
  obtain ⟨h2,e2⟩:=List.getElem?_eq_some_iff.mp b
  exact (List.getElem_inj hN).mp (e1.trans e2.symm)
theorem JE {M:Model} {A:Around} {E:Value→Shared→Prop} {i:Nat} {x:Str} {v:V} {u:Value} {Q:Unit→Shared→Prop} (I:Inv X pins σ H s) (hN:X.N.Nodup) (hi:X.N[i]?=some x) (hx:Loc X.env.scope x) (r:RelV v u)
    (h:∀ s',Inv X pins (σ.set i (some v)) H s'→(∃ a,Heap.SameBut a s.heap s'.heap∧(a=X.env.locals∨X.env.cells.lookup x=some a))→Q () s') (hf:X.fn x=true∨X.env.scope.names.lookup x=some .local:=by first | exact .inl rfl | exact .inr rfl | assumption):wpAny M A (storeName X.env x u) Q E s:=by
  obtain ⟨m,hn,hl⟩:=id I.loc
  have hcls:(X.env.scope.kind == .class || (X.env.scope.kind == .module && X.env.locals != X.env.globals))=false:=by rw [I.ok.kind];rfl
  have hiσ:i < σ.length:=by rw [I.len];exact (List.getElem?_eq_some_iff.mp hi).1
  have cne:=I.cne
  have tracked:∀ {a:Addr} {h':Heap},(∃ o,s.heap.get? a=some o∧H a=none)→Heap.SameBut a s.heap h'→HOk X.prog X.w H h':=fun {a h'} ha hs b ob e=>by
    obtain ⟨_,_,hfree⟩:=ha
    refine (I.hok b ob e).stay (fun c w' hc q=>(hs.2 c ?_).trans q) (fun _ q=>q) fun _ _ q=>q
    rintro rfl
    rcases hc with rfl | hc
    · rw [hfree] at e;cases e
    · rw [hfree] at hc;cases hc
  rcases hx with hk | hk
  · refine wpAny_storeName_local hk hn (fun h' hn' hs=>?_) hcls
    obtain ⟨oL,_,_,hoL,_⟩:=id hn
    refine h _ ⟨I.ok,I.os,I.bare,⟨fun b o e n hb hx=>?_,fun b o e n hb hx=>?_,I.base.free,fun b o e hx=>?_,I.base.tups,I.base.frzs,I.base.tbls⟩,⟨_,hn',fun j y v' e1 e2 e3=>?_⟩,fun y c e=>?_,I.free,I.freeC,fun p hp=>?_,tracked ⟨oL,hoL,I.free⟩ hs,by simpa using I.len⟩ ⟨_,hs,.inl rfl⟩
    · exact (hs.2 b (Nat.ne_of_lt (Nat.lt_of_lt_of_le (Heap.lt_size e) I.ok.above))).trans (I.base.keep b o e n hb hx)
    · obtain ⟨sl,e1⟩:=I.base.slot b o e n hb hx
      exact ⟨sl,(hs.2 b (Nat.ne_of_lt (Nat.lt_of_lt_of_le (Heap.lt_size e) I.ok.above))).trans e1⟩
    · obtain ⟨o',e1⟩:=I.base.there b o e hx
      exact ⟨o',(hs.2 b (Nat.ne_of_lt (Nat.lt_of_lt_of_le (Heap.lt_size e) I.ok.above))).trans e1⟩
    · by_cases hj:j=i
      · subst hj
        rw [hi] at e1;cases e1
        rw [List.getElem?_set_self hiσ] at e2
        cases e2
        exact ⟨u,r,.inl ⟨hk,by simp⟩⟩
      · rw [List.getElem?_set_ne (Ne.symm hj)] at e2
        obtain ⟨u',r',q⟩:=hl j y v' e1 e2 e3
        refine ⟨u',r',?_⟩
        rcases q with ⟨k,e⟩ | ⟨k,c,e,z⟩
        · refine .inl ⟨k,?_⟩
          have:y≠x:=fun e=>hj (XU hN e1 (e ▸ hi))
          simp [this,e]
        · exact .inr ⟨k,c,e,z.sameBut hs (cne y c e)⟩
    · obtain ⟨w',z⟩:=I.cell y c e
      exact ⟨w',z.sameBut hs (cne y c e)⟩
    · obtain ⟨e,n,ne,nf,d⟩:=I.pin p hp
      exact ⟨(hs.2 p.1 ne).trans e,n,ne,nf,d⟩
  · have hfn:X.fn x=true:=by
      rcases hf with z | z
      · exact z
      · rw [z] at hk;cases hk
    obtain ⟨c,hc⟩:=I.ok.has x (.inl hk)
    obtain ⟨w',z⟩:=I.cell x c hc
    refine wpAny_storeName_cell I.ok.kind hk hc z (fun h' hc' hs=>?_)
    obtain ⟨oc,hoc,hocd⟩:=id z
    refine h { s with heap:=h' } ⟨I.ok,I.os,I.bare,⟨fun b o e n hb hx=>?_,fun b o e n hb hx=>?_,I.base.free,fun b o e hx=>?_,I.base.tups,I.base.frzs,I.base.tbls⟩,⟨m,hn.sameBut hs (Ne.symm (cne x c hc)),fun j y v' e1 e2 e3=>?_⟩,fun y c' e=>?_,I.free,I.freeC,fun p hp=>?_,tracked ⟨oc,hoc,I.freeC x c hc⟩ hs,by simpa using I.len⟩ ⟨c,hs,.inr hc⟩
    · exact (hs.2 b (Nat.ne_of_lt (Nat.lt_of_lt_of_le (Heap.lt_size e) (I.ok.cab x c hfn hc)))).trans (I.base.keep b o e n hb hx)
    · obtain ⟨sl,e1⟩:=I.base.slot b o e n hb hx
      exact ⟨sl,(hs.2 b (Nat.ne_of_lt (Nat.lt_of_lt_of_le (Heap.lt_size e) (I.ok.cab x c hfn hc)))).trans e1⟩
    · obtain ⟨o',e1⟩:=I.base.there b o e hx
      exact ⟨o',(hs.2 b (Nat.ne_of_lt (Nat.lt_of_lt_of_le (Heap.lt_size e) (I.ok.cab x c hfn hc)))).trans e1⟩
    · by_cases hj:j=i
      · subst hj
        rw [hi] at e1;cases e1
        rw [List.getElem?_set_self hiσ] at e2
        cases e2
        exact ⟨u,r,.inr ⟨.inl hk,c,hc,hc'⟩⟩
      · rw [List.getElem?_set_ne (Ne.symm hj)] at e2
        obtain ⟨u',r',q⟩:=hl j y v' e1 e2 e3
        refine ⟨u',r',?_⟩
        rcases q with q | ⟨k,c',e,z'⟩
        · exact .inl q
        · refine .inr ⟨k,c',e,z'.sameBut hs ?_⟩
          rintro rfl
          exact hj (XU hN e1 (I.ok.inj _ _ _ e hc ▸ hi))
    · by_cases hcc:c'=c
      · subst hcc;exact ⟨_,hc'⟩
      · obtain ⟨w2,z2⟩:=I.cell y c' e
        exact ⟨w2,z2.sameBut hs hcc⟩
    · obtain ⟨e,n,ne,nf,d⟩:=I.pin p hp
      refine ⟨(hs.2 p.1 ?_).trans e,n,ne,nf,d⟩
      intro q
      rw [q,hoc] at e
      have q':oc=p.2:=Option.some.inj e
      exact d w' (by rw [← q'];exact hocd)
theorem Wi {M:Model} {A:Around} {E:Value→Shared→Prop} {i:Nat} {x:Str} {v:V} {u:Value} {Q:Unit→Shared→Prop} (I:Inv X pins σ H s) (hN:X.N.Nodup) (hi:X.N[i]?=some x) (hx:Loc X.env.scope x) (r:RelV v u)
    (h:∀ s',Inv X pins (σ.set i (some v)) H s'→Q () s') (hf:X.fn x=true∨X.env.scope.names.lookup x=some .local:=by first | exact .inl rfl | exact .inr rfl | assumption):wpAny M A (storeName X.env x u) Q E s :=
  JE I hN hi hx r (fun s' I' _=>h s' I') hf
theorem Inv.call' {s':Shared} {ch:List Addr} (I:Inv X pins σ H s) (ho:s'.os=s.os) (u:Un (frs X.stack) ch H H' s.heap s'.heap) (hok:HOk X.prog X.w H' s'.heap) (hg:AllBare s'.gens)
    (hch:∀ b ∈ ch,(b ∈ X.ex∨X.s₀.heap.objs.size≤b)∧b≠X.env.locals∧(∀ x c,X.env.cells.lookup x=some c→c≠b)∧∀ p ∈ X.pn ++ pins,p.1≠b):Inv X pins σ H' s':=by
  obtain ⟨h',g',d',t',o'⟩:=s'
  have e:o'=s.os:=ho
  subst e
  exact I.call (g':=g') (t':=t') (d':=d') u hok hg hch
end
abbrev XK:=Value→Option Addr→Hp→Prop
abbrev St:=List (Option V)
abbrev VK:=V→Hp→Prop
abbrev TE:=St→Hp→VK→Prop
abbrev TT:=St→Hp→(Bool→Hp→Prop)→Prop
abbrev TA:=St→Hp→(List V→Hp→Prop)→Prop
structure Ends where
  nx:St→Hp→Prop
  rt:VK
  bk:St→Hp→Prop:=fun _ _=>False
  ct:St→Hp→Prop:=fun _ _=>False
abbrev TS:=Ends→St→Hp→Prop
def EP (X:Cx) (pins:List (Addr × Obj)) (σ:St) (Q:VK) (u:Value) (s':Shared):Prop:=∃ v H',Inv X pins σ H' s'∧RelV v u∧Q v H'
def TP (X:Cx) (pins:List (Addr × Obj)) (σ:St) (Q:Bool→Hp→Prop) (b:Bool) (s':Shared):Prop:=∃ H',Inv X pins σ H' s'∧Q b H'
def AP (X:Cx) (pins:List (Addr × Obj)) (σ:St) (Q:List V→Hp→Prop) (us:List Value) (s':Shared):Prop:=∃ vs H',Inv X pins σ H' s'∧Vals vs us∧Q vs H'
def SP (X:Cx) (pins:List (Addr × Obj)) (D:Ends) (f:Flow) (s':Shared):Prop :=
  match f with
  | .next=>∃ σ' H',Inv X pins σ' H' s'∧D.nx σ' H'
  | .brk=>∃ σ' H',Inv X pins σ' H' s'∧D.bk σ' H'
  | .cont=>∃ σ' H',Inv X pins σ' H' s'∧D.ct σ' H'
  | .ret u=>∃ v σ' H',Inv X pins σ' H' s'∧RelV v u∧D.rt v H'
def PE (X:Cx) (e:Expr) (t:TE):Prop :=
  ∀ (pins:List (Addr × Obj)) (s:Shared) (σ:St) (H:Hp) (Q:VK),Inv X pins σ H s→t σ H Q→wpAny (model X.prog X.w) X.A (eval e X.env) (EP X pins σ Q) X.xe s
def PT (X:Cx) (e:Expr) (t:TT):Prop :=
  ∀ (pins:List (Addr × Obj)) (s:Shared) (σ:St) (H:Hp) (Q:Bool→Hp→Prop),Inv X pins σ H s→t σ H Q→wpAny (model X.prog X.w) X.A (isTrue e X.env (eval e X.env)) (TP X pins σ Q) X.xe s
def PW (X:Cx) (e:Expr) (t:TT):Prop :=
  ∀ (whole:Sem Value) (pins:List (Addr × Obj)) (s:Shared) (σ:St) (H:Hp) (Q:Bool→Hp→Prop),Inv X pins σ H s→t σ H Q→wpAny (model X.prog X.w) X.A (isTrue e X.env whole) (TP X pins σ Q) X.xe s
theorem PW.pt {X:Cx} {e:Expr} {t:TT} (h:PW X e t):PT X e t:=h _
def PA (X:Cx) (es:List Expr) (t:TA):Prop :=
  ∀ (pos:Pos) (pins:List (Addr × Obj)) (s:Shared) (σ:St) (H:Hp) (Q:List V→Hp→Prop),Inv X pins σ H s→t σ H Q→wpAny (model X.prog X.w) X.A (spliced (backTo pos (starEach es X.env))) (AP X pins σ Q) X.xe s
def PS (X:Cx) (st:Stmt) (t:TS):Prop :=
  ∀ (pins:List (Addr × Obj)) (s:Shared) (σ:St) (H:Hp) (D:Ends),Inv X pins σ H s→t D σ H→wpAny (model X.prog X.w) X.A (exec st X.env) (SP X pins D) X.xe s
def PSs (X:Cx) (st:List Stmt) (t:TS):Prop :=
  ∀ (pins:List (Addr × Obj)) (s:Shared) (σ:St) (H:Hp) (D:Ends),Inv X pins σ H s→t D σ H→wpAny (model X.prog X.w) X.A (execs st X.env) (SP X pins D) X.xe s
theorem thn {α:Type} {t:Sem α} {Q Q':α→Shared→Prop} {M:Model} {A:Around} {E:Value→Shared→Prop} {s:Shared} (h:wpAny M A t Q E s) (hQ:∀ a s,Q a s→Q' a s):wpAny M A t Q' E s:=wpAny_mono h hQ fun _ _ x=>x
end L2
namespace L2
open PySem PySem.Spec PyProof.Rows
section
variable {X:Cx}
def Zf (i:Nat):TE:=fun σ H Q=>∃ v,σ[i]?=some (some v)∧Q v H
def tC (v:V):TE:=fun _ H Q=>Q v H
theorem GB {i:Nat} {x:Str} {pos:Pos} (hN:X.N[i]?=some x) (hv:Vis X.env.scope x) (hd:(x == ("__debug__" : Str))=false:=by decide) (hcd:(x == ("__classdict__" : Str))=false:=by decide):PE X (.Name x pos) (Zf i):=by
  intro pins s σ H Q I h
  obtain ⟨v,e,h⟩:=h
  obtain ⟨m,hn,hl⟩:=I.loc
  obtain ⟨u,r,l⟩:=hl i x v hN e hv
  have fin:EP X pins σ Q u s:=⟨v,H,I,r,h⟩
  rcases l with ⟨hk,hm⟩ | ⟨hk,c,hc,hcell⟩
  · exact wpAny_Name (wpAny_loadName_local I.ok.kind hk hn hm fin) hd
  · rcases hk with hk | hk
    · exact wpAny_Name (wpAny_loadName_cell I.ok.kind hk hc hcell fin) hd
    · exact wpAny_Name (wpAny_loadName_free I.ok.kind hk hc hcell fin hcd) hd
theorem Qd {i j pos}:PE X (.Constant (.int i) j pos) (tC (.int i)):=fun _ _ _ H _ I h=>wpAny_Constant_int ⟨.int i,H,I.tok _,⟨_,rfl⟩,h⟩
theorem Z4 {b j pos}:PE X (.Constant (.bool b) j pos) (tC (.bl b)):=fun _ _ _ H _ I h=>Constant_bool ⟨.bl b,H,I,rfl,h⟩
theorem ZF {j pos}:PE X (.Constant .none j pos) (tC .non):=fun _ _ _ H _ I h=>Constant_none ⟨.non,H,I,rfl,h⟩
theorem Q6 {x j pos}:PE X (.Constant (.str x) j pos) (tC (.str x)):=fun _ _ _ H _ I h=>Calls.Constant_str ⟨.str x,H,I.tok _,⟨_,rfl⟩,h⟩
def Gl (X:Cx) (x:Str):Prop:=X.env.kindOf x=some .globalImplicit
theorem YN {E:Value→Shared→Prop} {pins:List (Addr × Obj)} {s:Shared} {σ:St} {H:Hp} {x:Str} {u:Value} {pos:Pos} {Q:Value→Shared→Prop} (I:Inv X pins σ H s) (hg:Gl X x) (hm:X.mg x=some u) (h:Q u s)
    (hd:(x == ("__debug__" : Str))=false:=by decide):wpAny (model X.prog X.w) X.A (eval (.Name x pos) X.env) Q E s :=
  Calls.Name_function_global I.ok.kind hg (Calls.loadGlobal_global (by rw [I.ok.glob];exact I.mod.glob.keeps I.bk) hm h) hd
theorem ZS {E:Value→Shared→Prop} {pins:List (Addr × Obj)} {s:Shared} {σ:St} {H:Hp} {x:Str} {u:Value} {pos:Pos} {Q:Value→Shared→Prop} (I:Inv X pins σ H s) (hg:Gl X x) (hm:X.mg x=none) (hv:bootBuiltins x=some u) (h:Q u s)
    (hn:x ≠ "__name__" := by decide) (hd:(x == ("__debug__" : Str))=false:=by decide):wpAny (model X.prog X.w) X.A (eval (.Name x pos) X.env) Q E s:=by
  obtain ⟨mb,h1,h2⟩:=I.mod.blt
  exact Calls.Name_function_global I.ok.kind hg (Calls.loadGlobal_builtin (by rw [I.ok.glob];exact I.mod.glob.keeps I.bk) hm (by rw [I.ok.blt];exact h1.keeps I.bk) ((h2 x hn).trans hv) h) hd
theorem Uo {x:Str} {v:V} {u:Value} {pos:Pos} (hg:Gl X x) (hm:X.mg x=some u) (r:RelV v u) (hd:(x == ("__debug__" : Str))=false:=by decide):PE X (.Name x pos) (tC v) :=
  fun _ _ _ H _ I h=>YN I hg hm ⟨v,H,I,r,h⟩ hd
theorem YK {x:Str} {v:V} {u:Value} {pos:Pos} (hg:Gl X x) (hm:X.mg x=none) (hv:bootBuiltins x=some u) (r:RelV v u) (hn:x ≠ "__name__" := by decide) (hd:(x == ("__debug__" : Str))=false:=by decide):PE X (.Name x pos) (tC v) :=
  fun _ _ _ H _ I h=>ZS I hg hm hv ⟨v,H,I,r,h⟩ hn hd
variable {a b:Expr} {ta tb:TE} {pos:Pos}
def PC (X:Cx) (op:CmpOp) (a b:Expr) (t:TE):Prop :=
  ∀ (pins:List (Addr × Obj)) (s:Shared) (σ:St) (H:Hp) (Q:VK),Inv X pins σ H s→t σ H Q →
    wpAny (model X.prog X.w) X.A (eval a X.env) (fun v s₁=>wpAny (model X.prog X.w) X.A (eval b X.env) (fun u s₂=>wpAny (model X.prog X.w) X.A (compareOp op v u) (EP X pins σ Q) X.xe s₂) X.xe s₁) X.xe s
theorem Mf (b:Expr) {op:CmpOp} (h:op≠.In) (h2:op≠.NotIn):behindInMarks op b=false:=by
  have e1:(op == CmpOp.In)=false:=by cases op <;> first | rfl | exact absurd rfl h
  have e2:(op == CmpOp.NotIn)=false:=by cases op <;> first | rfl | exact absurd rfl h2
  cases b <;> simp [behindInMarks,e1,e2]
def PX (ta:TE):TE:=fun σ H Q=>ta σ H fun x H1=>Q (.bl (decide (x=.non))) H1
theorem RelV.none_iff {x:V} {v:Value} (r:RelV x v):(v == Value.none)=decide (x=.non):=by
  cases x with
  | non=>cases r;rfl
  | bl _=>cases r;rfl
  | int _=>obtain ⟨t,rfl⟩:=r;rfl
  | str _=>obtain ⟨t,rfl⟩:=r;rfl
  | byt _=>obtain ⟨t,rfl⟩:=r;rfl
  | flt _=>obtain ⟨t,rfl⟩:=r;rfl
  | ref _=>cases r;rfl
  | ty _=>cases r;rfl
theorem Oi {j pos'} (ha:PE X a ta):PC X .Is a (.Constant .none j pos') (PX ta):=by
  intro pins s σ H Q I h
  refine thn (ha pins s σ H _ I h) fun v s1 ⟨x,H1,I1,r1,q1⟩=>?_
  exact Constant_none (is_none_gen ⟨.bl _,H1,I1,by rw [r1.none_iff];rfl,q1⟩)
def tB (t:TE):TT:=fun σ H Q=>t σ H fun x H1=>∃ c,x=.bl c∧Q c H1
theorem Lp {op:CmpOp} {t:TE} (h:PC X op a b t) (h1:behindInMarks op b=false:=by first | exact Mf _ (by decide) (by decide) | rfl):PT X (.Compare a [op] [b] pos) (tB t):=by
  intro pins s σ H Q I hw
  refine wpAny_isTrue_Compare1 (thn (h pins s σ H _ I hw) fun v s1 h1=>thn h1 fun u s2 h2=>thn h2 fun c s3 ⟨x,H1,I1,r1,q1⟩=>?_) h1
  obtain ⟨d,rfl,q⟩:=q1
  cases r1
  exact wpAny_truthy_bool ⟨H1,I1,q⟩
theorem Zv {e:Expr} {t:TE} (h:PE X e t) (he:∀ whole,isTrue e X.env whole=(do let v ← whole;standAt e.pos;holding [v] (truthy v)):=by intro _;rfl):PT X e (tB t):=by
  intro pins s σ H Q I hw
  refine isTrue_plain (thn (h pins s σ H _ I hw) fun v s1 ⟨x,H1,I1,r1,q1⟩=>?_) (he _)
  obtain ⟨d,rfl,q⟩:=q1
  cases r1
  exact wpAny_truthy_bool ⟨H1,I1,q⟩
variable {tA tB':TT} {rest:List Expr}
def Rj (t u:TT):TT:=fun σ H Q=>t σ H fun c H1=>if c=true then u σ H1 Q else Q false H1
def tOr (t u:TT):TT:=fun σ H Q=>t σ H fun c H1=>if c=true then Q true H1 else u σ H1 Q
def Rt (t:TT):TT:=fun σ H Q=>t σ H fun c H1=>Q (!c) H1
theorem pw_and1 (ha:PT X a tA):PW X (.BoolOp .And [a] pos) tA:=by
  intro wh pins s σ H Q I h
  refine isTrue_and (thn (ha pins s σ H Q I h) fun c s1 e=>?_)
  cases c with
  | true=>exact isTrue_and_nil e
  | false=>exact e
theorem pw_or1 (ha:PT X a tA):PW X (.BoolOp .Or [a] pos) tA:=by
  intro wh pins s σ H Q I h
  refine isTrue_or (thn (ha pins s σ H Q I h) fun c s1 e=>?_)
  cases c with
  | false=>exact isTrue_or_nil e
  | true=>exact e
theorem pw_and (ha:PT X a tA) (hb:PW X (.BoolOp .And (b :: rest) pos) tB'):PW X (.BoolOp .And (a :: b :: rest) pos) (Rj tA tB'):=by
  intro wh pins s σ H Q I h
  refine isTrue_and (thn (ha pins s σ H _ I h) fun c s1 ⟨H1,I1,q1⟩=>?_)
  cases c with
  | true=>exact hb wh pins s1 σ H1 Q I1 q1
  | false=>exact ⟨H1,I1,q1⟩
theorem pw_or (ha:PT X a tA) (hb:PW X (.BoolOp .Or (b :: rest) pos) tB'):PW X (.BoolOp .Or (a :: b :: rest) pos) (tOr tA tB'):=by
  intro wh pins s σ H Q I h
  refine isTrue_or (thn (ha pins s σ H _ I h) fun c s1 ⟨H1,I1,q1⟩=>?_)
  cases c with
  | true=>exact ⟨H1,I1,q1⟩
  | false=>exact hb wh pins s1 σ H1 Q I1 q1
theorem Z2 (ha:PT X a tA):PT X (.UnaryOp .Not a pos) (Rt tA):=by
  intro pins s σ H Q I h
  exact isTrue_not (ha pins s σ H (fun c H1=>Q (!c) H1) I h)
def O5 (ta tb:TE):TE:=fun σ H Q=>ta σ H fun x H1=>∃ c,x=.bl c∧if c=true then tb σ H1 Q else Q (.bl false) H1
def OZ (ta:TE):TE:=fun σ H Q=>ta σ H fun x H1=>∃ c,x=.bl c∧Q (.bl (!c)) H1
theorem UD {op} {t:TE} (h:PE X a t):PE X (.BoolOp op [a] pos) t:=fun pins s σ H Q I hw=>BoolOp_one (h pins s σ H Q I hw)
theorem Je (ha:PE X a ta) (hb:PE X (.BoolOp .And (b :: rest) pos) tb):PE X (.BoolOp .And (a :: b :: rest) pos) (O5 ta tb):=by
  intro pins s σ H Q I h
  refine BoolOp_and (thn (ha pins s σ H _ I h) fun v s1 ⟨x,H1,I1,r1,q1⟩=>?_)
  obtain ⟨c,rfl,q1⟩:=q1
  cases r1
  refine wpAny_truthy_bool ?_
  cases c with
  | true=>exact hb pins s1 σ H1 Q I1 q1
  | false=>exact ⟨.bl false,H1,I1,rfl,q1⟩
theorem Lo (ha:PE X a ta):PE X (.UnaryOp .Not a pos) (OZ ta):=by
  intro pins s σ H Q I h
  refine UnaryOp_ (thn (ha pins s σ H _ I h) fun v s1 ⟨x,H1,I1,r1,q1⟩=>?_)
  obtain ⟨c,rfl,q1⟩:=q1
  cases r1
  exact not_of (wpAny_truthy_bool ⟨.bl (!c),H1,I1,rfl,q1⟩)
def tIf (t:TT) (ta tb:TE):TE:=fun σ H Q=>t σ H fun c H1=>if c=true then ta σ H1 Q else tb σ H1 Q
theorem GZ {c:Expr} (hc:PT X c tA) (ha:PE X a ta) (hb:PE X b tb):PE X (.IfExp c a b pos) (tIf tA ta tb):=by
  intro pins s σ H Q I h
  refine wpAny_IfExp (thn (hc pins s σ H _ I h) fun d s1 ⟨H1,I1,q1⟩=>?_)
  cases d with
  | true=>exact ha pins s1 σ H1 Q I1 q1
  | false=>exact hb pins s1 σ H1 Q I1 q1
end
end L2
namespace L2
open PySem PySem.Spec PyProof.Rows
def SqL (K:PySem.W.Frag) (H:Hp) (a:Addr) (xs:List V):Prop :=
  Rd H a (.lst xs) ∨
    ∃ (o:Obj) (its:Array Value) (n:Nat),K.lookup a=some o∧o.cls=.type "list" ∧ o.dict=none∧o.data=.seq its n∧its.size≤sizeLine∧Vals xs its.toList
def SqT (K:PySem.W.Frag) (H:Hp) (a:Addr) (xs:List V):Prop :=
  Rd H a (.tup xs) ∨
    ∃ (o:Obj) (its:Array Value) (n:Nat),K.lookup a=some o∧o.cls=.type "tuple" ∧ o.data=.seq its n∧its.size≤sizeLine∧Vals xs its.toList
def Ra:Value→Option V
  | .none=>some .non
  | .bool b=>some (.bl b)
  | .int i _=>some (.int i)
  | .str x _=>some (.str x)
  | .bytes b _=>some (.byt b)
  | .float b _=>some (.flt b)
  | .ref a=>some (.ref a)
  | .type n=>some (.ty n)
  | _=>none
theorem RelV.abs {x:V} {u:Value} (r:RelV x u):Ra u=some x:=by
  cases x with
  | non=>cases r;rfl
  | bl _=>cases r;rfl
  | int _=>obtain ⟨t,rfl⟩:=r;rfl
  | str _=>obtain ⟨t,rfl⟩:=r;rfl
  | byt _=>obtain ⟨t,rfl⟩:=r;rfl
  | flt _=>obtain ⟨t,rfl⟩:=r;rfl
  | ref _=>cases r;rfl
  | ty _=>cases r;rfl
theorem RelV.inj {x y:V} {u:Value} (r:RelV x u) (q:RelV y u):x=y:=Option.some.inj (r.abs.symm.trans q.abs)
theorem Vals.inj:∀ {xs ys:List V} {us:List Value},Vals xs us→Vals ys us→xs=ys
  | _,_,_,.nil,.nil=>rfl
  | _,_,_,.cons r t,.cons r' t'=>by rw [r.inj r',Vals.inj t t']
section
variable {X:Cx} {pins:List (Addr × Obj)} {σ:St} {H:Hp} {s:Shared} {a:Addr} {xs ys:List V}
theorem SqL.of {K:PySem.W.Frag} (h:H a=some (.lst xs)):SqL K H a xs:=.inl (.inl h)
theorem SqT.of {K:PySem.W.Frag} (h:H a=some (.tup xs)):SqT K H a xs:=.inl (.inl h)
theorem Inv.list (I:Inv X pins σ H s) (h:SqL X.K H a xs):∃ its:List Value,Vals xs its∧PlainL s.heap a its.toArray∧xs.length≤sizeLine:=by
  rcases h with h | ⟨o,its,n,hk,hc,hd,hs,hz,r⟩
  · obtain ⟨z,its,n,r,e⟩:=h.ok I.hok
    exact ⟨its,r,⟨_,n,e,rfl,rfl,rfl⟩,z⟩
  · refine ⟨its.toList,r,⟨o,n,I.kIn a o hk,hc,hd,by simpa using hs⟩,?_⟩
    have e:=r.length
    simp only [Array.length_toList] at e
    omega
theorem Inv.tuple (I:Inv X pins σ H s) (h:SqT X.K H a xs):∃ its:List Value,Vals xs its∧IsTup s.heap a its.toArray∧xs.length≤sizeLine:=by
  rcases h with h | ⟨o,its,n,hk,hc,hs,hz,r⟩
  · obtain ⟨z,its,r,p⟩:=h.ok I.hok
    exact ⟨its,r,p,z⟩
  · refine ⟨its.toList,r,⟨o,I.kIn a o hk,hc,n,by simpa using hs⟩,?_⟩
    have e:=r.length
    simp only [Array.length_toList] at e
    omega
theorem Inv.list_inj (I:Inv X pins σ H s) (h:SqL X.K H a xs) (h':SqL X.K H a ys):xs=ys:=by
  obtain ⟨its,r,⟨o,n,e,_,_,d⟩,_⟩:=I.list h
  obtain ⟨its',r',⟨o',n',e',_,_,d'⟩,_⟩:=I.list h'
  rw [e] at e';cases e'
  rw [d] at d'
  injection d' with d1 _
  have:its=its':=by simpa using congrArg Array.toList d1
  subst this
  exact r.inj r'
theorem Inv.tuple_inj (I:Inv X pins σ H s) (h:SqT X.K H a xs) (h':SqT X.K H a ys):xs=ys:=by
  obtain ⟨its,r,⟨o,e,_,n,d⟩,_⟩:=I.tuple h
  obtain ⟨its',r',⟨o',e',_,n',d'⟩,_⟩:=I.tuple h'
  rw [e] at e';cases e'
  rw [d] at d'
  injection d' with d1 _
  have:its=its':=by simpa using congrArg Array.toList d1
  subst this
  exact r.inj r'
end
abbrev Cx.wish (X:Cx) (E:Value→Shared→Prop):Cx:={ X with xe:=E }
abbrev Cx.nox (X:Cx):Cx:=X.wish fun _ _=>False
theorem Cx.Ok.wish {X:Cx} (ok:X.Ok) (E:Value→Shared→Prop):(X.wish E).Ok :=
  ⟨ok.mod,ok.kind,ok.glob,ok.blt,ok.above,ok.inj,ok.has,ok.cab,ok.hd,ok.frames,ok.stk,ok.exf,ok.bs,ok.bsz,ok.noex,ok.exfs,ok.funs,ok.frf⟩
theorem Cx.Ok.unwish {X:Cx} {E:Value→Shared→Prop} (ok:(X.wish E).Ok):X.Ok :=
  ⟨ok.mod,ok.kind,ok.glob,ok.blt,ok.above,ok.inj,ok.has,ok.cab,ok.hd,ok.frames,ok.stk,ok.exf,ok.bs,ok.bsz,ok.noex,ok.exfs,ok.funs,ok.frf⟩
section
variable {X:Cx} {pins:List (Addr × Obj)} {σ:St} {H:Hp} {s:Shared} {E:Value→Shared→Prop}
theorem Inv.wish (I:Inv X pins σ H s) (E:Value→Shared→Prop):Inv (X.wish E) pins σ H s:=⟨I.ok.wish E,I.os,I.bare,I.base,I.loc,I.cell,I.free,I.freeC,I.pin,I.hok,I.len⟩
theorem Inv.unwish (I:Inv (X.wish E) pins σ H s):Inv X pins σ H s:=⟨I.ok.unwish,I.os,I.bare,I.base,I.loc,I.cell,I.free,I.freeC,I.pin,I.hok,I.len⟩
theorem SP.unwish {D:Ends} {f:Flow} {s':Shared} (h:SP (X.wish E) pins D f s'):SP X pins D f s':=by
  cases f with
  | next=>obtain ⟨σ',H',I,q⟩:=h;exact ⟨σ',H',I.unwish,q⟩
  | brk=>obtain ⟨σ',H',I,q⟩:=h;exact ⟨σ',H',I.unwish,q⟩
  | cont=>obtain ⟨σ',H',I,q⟩:=h;exact ⟨σ',H',I.unwish,q⟩
  | ret u=>obtain ⟨v,σ',H',I,r,q⟩:=h;exact ⟨v,σ',H',I.unwish,r,q⟩
theorem PE.nox {e:Expr} {t:TE} (h:PE X.nox e t):PE X e t:=fun pins s σ H Q I hw =>
  wpAny_mono (h pins s σ H Q (I.wish _) hw) (fun _ _ ⟨v,H',I',r,q⟩=>⟨v,H',I'.unwish,r,q⟩) fun _ _ z=>False.elim z
theorem PSs.nox {st:List Stmt} {t:TS} (h:PSs X.nox st t):PSs X st t:=fun pins s σ H D I hw =>
  wpAny_mono (h pins s σ H D (I.wish _) hw) (fun _ _ q=>q.unwish) fun _ _ z=>False.elim z
end
section
variable {X:Cx} {st:Stmt} {rest:List Stmt} {t u:TS} {e:Expr} {te:TE} {pos:Pos}
def OX:TS:=fun D σ H=>D.nx σ H
def P2 (t u:TS):TS:=fun D σ H=>t { D with nx:=u D } σ H
theorem Qx:PSs X [] OX:=fun _ _ σ H _ I h=>wpAny_execs_nil ⟨σ,H,I,h⟩
theorem Qe (h1:PS X st t) (h2:PSs X rest u):PSs X (st :: rest) (P2 t u):=by
  intro pins s σ H D I h
  refine wpAny_execs_cons (thn (h1 pins s σ H { D with nx:=u D } I h) fun f s1 q=>?_)
  cases f with
  | next =>
    obtain ⟨σ',H',I',q⟩:=q
    exact h2 pins s1 σ' H' D I' q
  | ret v=>exact q
  | brk=>exact q
  | cont=>exact q
theorem Qi (h1:PS X st t):PSs X [st] t:=by
  intro pins s σ H D I h
  refine wpAny_execs_cons (thn (h1 pins s σ H D I h) fun f s1 q=>?_)
  cases f with
  | next=>exact wpAny_execs_nil q
  | ret v=>exact q
  | brk=>exact q
  | cont=>exact q
theorem Inv.quiet {pins:List (Addr × Obj)} {σ:St} {H:Hp} {s:Shared} (I:Inv X pins σ H s):interactive X.env=false:=by simp [interactive,I.ok.kind]
def Pk (te:TE):TS:=fun D σ H=>te σ H fun _ H1=>D.nx σ H1
theorem Q2 (he:PE X e te) (hs:swapsWith e none pos.line X.env=pure false:=by rfl):PS X (.Expr e pos) (Pk te):=by
  intro pins s σ H D I h
  exact wpAny_Expr_any (thn (he pins s σ H _ I h) fun v s1 ⟨x,H1,I1,r1,q1⟩=>⟨σ,H1,I1,q1⟩) I.quiet hs
def PY (te:TE):TS:=fun D σ H=>te σ H D.rt
theorem Qp (he:PE X e te):PS X (.Return (some e) pos) (PY te):=by
  intro pins s σ H D I h
  exact wpAny_Return_some (thn (he pins s σ H _ I h) fun v s1 ⟨x,H1,I1,r1,q1⟩=>⟨x,σ,H1,I1,r1,q1⟩)
def P6 (c:TT) (t u:TS):TS:=fun D σ H=>c σ H fun b H1=>if b=true then t D σ H1 else u D σ H1
theorem QT {c:Expr} {a b:List Stmt} {tc:TT} (hc:PT X c tc) (ha:PSs X a t) (hb:PSs X b u):PS X (.If c a b pos) (P6 tc t u):=by
  intro pins s σ H D I h
  refine wpAny_If (thn (hc pins s σ H _ I h) fun d s1 ⟨H1,I1,q1⟩=>?_)
  cases d with
  | true=>exact ha pins s1 σ H1 D I1 q1
  | false=>exact hb pins s1 σ H1 D I1 q1
end
abbrev TG:=V→St→Hp→(St→Hp→Prop)→Prop
abbrev TGs:=List V→St→Hp→(St→Hp→Prop)→Prop
def PG (X:Cx) (target:Expr) (t:TG):Prop :=
  ∀ (pins:List (Addr × Obj)) (s:Shared) (σ:St) (H:Hp) (v:V) (u:Value) (Q:St→Hp→Prop),Inv X pins σ H s→RelV v u→t v σ H Q →
    wpAny (model X.prog X.w) X.A (assign target X.env u) (fun _ s'=>∃ σ' H',Inv X pins σ' H' s'∧Q σ' H') X.xe s
def PGs (X:Cx) (ts:List Expr) (t:TGs):Prop :=
  ∀ (pins:List (Addr × Obj)) (s:Shared) (σ:St) (H:Hp) (vs:List V) (us:List Value) (Q:St→Hp→Prop),Inv X pins σ H s→Vals vs us→t vs σ H Q →
    wpAny (model X.prog X.w) X.A (assignInOrder ((assignEach ts X.env).map (·.2)) us) (fun _ s'=>∃ σ' H',Inv X pins σ' H' s'∧Q σ' H') X.xe s
abbrev N3:=V→V→V→Hp→(Hp→Prop)→Prop
def Pt (X:Cx) (t:N3):Prop :=
  ∀ (pins:List (Addr × Obj)) (s:Shared) (σ:St) (H:Hp) (o i v:V) (ov iv u:Value) (Q:Hp→Prop),Inv X pins σ H s→RelV o ov→RelV i iv→RelV v u→t o i v H Q →
    wpAny (model X.prog X.w) X.A (setItem ov iv u) (fun _ s'=>∃ H',Inv X pins σ H' s'∧Q H') X.xe s
section
variable {X:Cx} {pos:Pos}
def Zo (i:Nat):TG:=fun v σ H Q=>Q (σ.set i (some v)) H
theorem Qu {i:Nat} {x:Str} (hN:X.N.Nodup) (hi:X.N[i]?=some x) (hx:Loc X.env.scope x) (hf:X.fn x=true∨X.env.scope.names.lookup x=some .local:=by first | exact .inl rfl | exact .inr rfl | assumption):PG X (.Name x pos) (Zo i):=by
  intro pins s σ H v u Q I r h
  exact wpAny_assign_Name (Wi I hN hi hx r (fun s' I'=>⟨_,H,I',h⟩) hf)
def Lc:TGs:=fun vs σ H Q=>vs=[]∧Q σ H
def YI (t:TG) (u:TGs):TGs:=fun vs σ H Q=>∃ v r,vs=v :: r∧t v σ H fun σ' H'=>u r σ' H' Q
theorem Zq:PGs X [] Lc:=by
  intro pins s σ H vs us Q I r h
  obtain ⟨e,h⟩:=h
  subst e
  cases r
  exact assignInOrder_nil ⟨σ,H,I,h⟩
theorem QF {e:Expr} {es:List Expr} {t:TG} {u:TGs} (h1:PG X e t) (h2:PGs X es u)
    (hs:(assignEach (e :: es) X.env).map (·.2)=assign e X.env :: (assignEach es X.env).map (·.2):=by rfl):PGs X (e :: es) (YI t u):=by
  intro pins s σ H vs us Q I r h
  obtain ⟨v,vr,e1,h⟩:=h
  subst e1
  cases r with
  | cons r rr =>
    rw [hs]
    refine assignInOrder_cons (thn (h1 pins s σ H _ _ _ I r h) fun _ s1 ⟨σ1,H1,I1,q1⟩=>?_)
    exact h2 pins s1 σ1 H1 _ _ Q I1 rr q1
def Mu (K:PySem.W.Frag) (n:Nat) (t:TGs):TG:=fun v σ H Q=>∃ a xs,v=.ref a∧SqT K H a xs∧xs.length=n∧t xs σ H Q
theorem ZY {es:List Expr} {k:Nat} {t:TGs} {n:Nat} (hc:X.calm=true) (h:PGs X es t)
    (hn:(assignEach es X.env).length=n:=by rfl) (hst:(assignEach es X.env).findIdx? (·.1)=none:=by rfl):PG X (.Tuple es k pos) (Mu X.K n t):=by
  intro pins s σ H v u Q I r hw
  obtain ⟨a,xs,e1,hq,hl,hw⟩:=hw
  subst e1
  cases r
  obtain ⟨its,rv,ht,hz⟩:=I.tuple hq
  refine assign_Tuple_tuple (I.ok.hd hc) ht (by simp [hn,← hl,rv.length]) hst fun h' hx=>?_
  have I1:Inv X pins σ H { s with heap:=h' }:=I.kept (t':=s.toks) fun b o e=>hx b o (Nat.ne_of_lt (Heap.lt_size e)) e
  exact h pins _ σ H xs _ Q I1 (by simpa using rv) hw
def Re (to ti:TE) (t:N3):TG:=fun v σ H Q=>to σ H fun o H1=>ti σ H1 fun i H2=>t o i v H2 fun H3=>Q σ H3
theorem Xj {o i:Expr} {to ti:TE} {t:N3} (ho:PE X o to) (hi:PE X i ti) (hs:Pt X t)
    (ha:∀ v,assign (.Subscript o i pos) X.env v=(do
      let ov ← holding [v] (eval o X.env)
      let iv ← holding [v,ov] (eval i X.env)
      standAt pos
      holding [v,ov,iv] (setItem ov iv v)
      release [v,ov,iv] []):=by intro _;rfl):PG X (.Subscript o i pos) (Re to ti t):=by
  intro pins s σ H v u Q I r h
  rw [ha]
  refine wpAny_bind (wpAny_holding (thn (ho pins s σ H _ I h) fun ov s1 ⟨x,H1,I1,r1,q1⟩=>?_))
  refine wpAny_bind (wpAny_holding (thn (hi pins s1 σ H1 _ I1 q1) fun iv s2 ⟨y,H2,I2,r2,q2⟩=>?_))
  refine wpAny_bind (wpAny_standAt (wpAny_bind (wpAny_holding (thn (hs pins s2 σ H2 x y v ov iv u _ I2 r1 r2 r q2) fun _ s3 ⟨H3,I3,q3⟩=>?_))))
  exact wpAny_release ⟨σ,H3,I3,q3⟩
def Oe (te:TE) (g:TG):TS:=fun D σ H=>te σ H fun x H1=>g x σ H1 D.nx
theorem Yu {tg e:Expr} {te:TE} {g:TG} (he:PE X e te) (hg:PG X tg g) (hs:swapsWithSole [tg] e pos.line X.env=pure false:=by rfl) (hw:swappedStores [tg] e X.env=pure none:=by rfl)
    (h1:(assignEach [tg] X.env).map (·.2)=[assign tg X.env]:=by rfl):PS X (.Assign [tg] e pos) (Oe te g):=by
  intro pins s σ H D I h
  refine wpAny_Assign_stores (thn (he pins s σ H _ I h) fun v s1 ⟨x,H1,I1,r1,q1⟩=>?_) hs hw
  rw [h1]
  exact thn (hg pins s1 σ H1 x v _ I1 r1 q1) fun _ s2 q=>q
theorem Qn {i:Nat} {x:Str} {e:Expr} {te:TE} {pos':Pos} (hN:X.N.Nodup) (hi:X.N[i]?=some x) (hx:Loc X.env.scope x) (he:PE X e te) (hs:swapsWith e (some (.Name x pos')) pos.line X.env=pure false:=by rfl) (hf:X.fn x=true∨X.env.scope.names.lookup x=some .local:=by first | exact .inl rfl | exact .inr rfl | assumption) :
    PS X (.Assign [.Name x pos'] e pos) (Oe te (Zo i)):=by
  intro pins s σ H D I h
  refine wpAny_Assign_Name (thn (he pins s σ H _ I h) fun v s1 ⟨y,H1,I1,r1,q1⟩=>?_) hs
  exact Wi I1 hN hi hx r1 (fun s2 I2=>⟨_,H1,I2,q1⟩) hf
end
section
variable {X:Cx} {pos:Pos}
end
structure It where
  go:Nat→Hp→Prop
  yld:Nat→Hp→V→Hp→Prop
  stop:Nat→Hp→Prop
def Yx (X:Cx) (pins:List (Addr × Obj)) (H:Hp) (b:Addr):Prop :=
  H b=none∧b≠X.env.locals∧b ∉ X.fs∧(b ∈ X.ex∨X.s₀.heap.objs.size≤b)∧(∀ x c,X.env.cells.lookup x=some c→c≠b)∧∀ p ∈ X.pn ++ pins,p.1≠b
theorem Inv.fpOk {X:Cx} {pins:List (Addr × Obj)} {σ:St} {H H':Hp} {s:Shared} {b:Addr} (I:Inv X pins σ H s) (hb:s.heap.objs.size≤b) (hn:H' b=none):Yx X pins H' b:=by
  refine ⟨hn,Nat.ne_of_gt (Nat.lt_of_lt_of_le I.lt hb),I.nofs hb,.inr (Nat.le_trans I.sz hb),fun x c e z=>?_,fun p hp z=>?_⟩
  · obtain ⟨v,q⟩:=I.cell x c e
    exact absurd (Nat.lt_of_lt_of_le q.lt (by rw [z];exact hb)) (Nat.lt_irrefl _)
  · exact absurd (Nat.lt_of_lt_of_le (Heap.lt_size (I.pin p hp).1) (by rw [z];exact hb)) (Nat.lt_irrefl _)
structure Turn (P:Program) (w:World) (K:PySem.W.Frag) (tg:Expr) (J:It) (fp:List Addr) (it:Addr) (tn:Nat→Heap→Prop):Prop where
  mem:it ∈ fp
  obj:∀ i h,tn i h→∀ b ∈ fp,∃ o,h.get? b=some o∧∀ v,o.data≠.cell v
  keep:∀ i h h',tn i h→(∀ b ∈ fp,∀ o,h.get? b=some o→h'.get? b=some o)→tn i h'
  item:∀ (X:Cx),X.prog=P→X.w=w→X.K=K→X.calm=true→∀ (i:Nat) (pins:List (Addr × Obj)) (s:Shared) (σ:St) (H:Hp) (E:Value→Shared→Prop),Inv X pins σ H s→(∀ b ∈ fp,Yx X pins H b)→tn i s.heap→J.go i H →
    wpAny (model P w) X.A (pyNext (.ref it)) (fun r s1=>∃ u,r=some u ∧
      wpAny (model P w) X.A (letOwnedTupleGo tg (.ref it) u) (fun _ s2=>∃ x H',Inv X pins σ H' s2∧RelV x u∧J.yld i H x H'∧tn (i + 1) s2.heap∧∀ b ∈ fp,H' b=none) E s1) E s
  done:∀ (X:Cx),X.prog=P→X.w=w→X.K=K→X.calm=true→∀ (i:Nat) (pins:List (Addr × Obj)) (s:Shared) (σ:St) (H:Hp) (E:Value→Shared→Prop),Inv X pins σ H s→(∀ b ∈ fp,Yx X pins H b)→tn i s.heap→J.stop i H →
    wpAny (model P w) X.A (pyNext (.ref it)) (fun r s1=>r=none∧Inv X pins σ H s1) E s
  self:∀ (A:Around) (i:Nat) (s:Shared) (Q:Value→Shared→Prop) (E:Value→Shared→Prop),tn i s.heap→Q (.ref it) s→wpAny (model P w) A (pyIter (.ref it)) Q E s
abbrev TI:=St→Hp→(It→Hp→Prop)→Prop
def PIE (X:Cx) (pins:List (Addr × Obj)) (σ:St) (tg:Expr) (R:It→Hp→Prop) (itv:Value) (s2:Shared):Prop :=
  ∃ (it:Addr) (fp:List Addr) (tn:Nat→Heap→Prop) (J:It) (H':Hp),itv=.ref it∧Inv X pins σ H' s2∧Turn X.prog X.w X.K tg J fp it tn∧tn 0 s2.heap∧(∀ b ∈ fp,Yx X pins H' b)∧R J H'
def PI (X:Cx) (tg iter:Expr) (wi:TI):Prop :=
  ∀ (pins:List (Addr × Obj)) (s:Shared) (σ:St) (H:Hp) (R:It→Hp→Prop),Inv X pins σ H s→wi σ H R →
    wpAny (model X.prog X.w) X.A (eval iter X.env) (fun v s1=>wpAny (model X.prog X.w) X.A (pyIter v) (PIE X pins σ tg R) X.xe s1) X.xe s
theorem Wn {M:Model} {A:Around} {E:Value→Shared→Prop} {s:Shared} {tg:Expr} {it:Addr} {u:Value} {o:Obj} {n:String} {vs:Array Value} {Q:Unit→Shared→Prop} (ho:s.heap.get? it=some o) (hc:o.cls=.type n) (hd:o.data=.fields vs)
    (hn:["enumerate", "zip", "dict_itemiterator", "dict_reverseitemiterator", "odict_iterator", "itertools.zip_longest", "itertools.pairwise"].contains n=false) (hQ:Q () s):wpAny M A (letOwnedTupleGo tg (.ref it) u) Q E s:=by
  unfold letOwnedTupleGo
  cases tg <;> first
    | exact wpAny_pure hQ
    | (cases u <;> first
        | exact wpAny_pure hQ
        | (refine wpAny_bind (wpAny_load ho ?_)
           rw [hc,hd]
           show wpAny M A (if (["enumerate", "zip", "dict_itemiterator", "dict_reverseitemiterator", "odict_iterator", "itertools.zip_longest", "itertools.pairwise"].contains n && vs[0]? == some (rawInt _))=true then _ else _) Q E s
           rw [if_neg (by intro h;rw [hn,Bool.false_and] at h;cases h)]
           exact wpAny_pure hQ))
def Itl (K:PySem.W.Frag) (a:Addr):It :=
  ⟨fun i H=>∃ xs x,SqL K H a xs∧xs[i]?=some x,fun i H x H'=>H'=H∧∀ xs,SqL K H a xs→xs[i]?=some x,fun i H=>∃ xs,SqL K H a xs∧xs.length≤i⟩
def Itt (K:PySem.W.Frag) (a:Addr):It :=
  ⟨fun i H=>∃ xs x,SqT K H a xs∧xs[i]?=some x,fun i H x H'=>H'=H∧∀ xs,SqT K H a xs→xs[i]?=some x,fun i H=>∃ xs,SqT K H a xs∧xs.length≤i⟩
def Itr (lo:Int) (n:Nat):It:=⟨fun i _=>i < n,fun i H x H'=>H'=H∧x=.int (lo + i),fun i _=>n≤i⟩
theorem Gc {P:Program} {w:World} {K:PySem.W.Frag} {tg:Expr} (a it:Addr):Turn P w K tg (Itl K a) [it] it (fun i h=>h.IsListIter it a i) where
  mem:=by simp
  obj:=fun i h st b hb=>by
    have e:b=it:=by simpa using hb
    subst e
    obtain ⟨o,e,c,d⟩:=st
    exact ⟨o,e,fun v z=>by rw [d] at z;cases z⟩
  keep:=fun i h h' st k=>st.at fun o e=>k it (by simp) o e
  item:=by
    intro X hP hw hK hc i pins s σ H E I hf st hg
    subst hP hw hK
    obtain ⟨xs,x,hq,hx⟩:=hg
    obtain ⟨its,rv,p,hz⟩:=I.list hq
    obtain ⟨u,hu,ru⟩:=rv.get hx
    obtain ⟨f0,f1,f2,f3,f4,f5⟩:=hf it (by simp)
    refine wpAny_pyNext_list_item st p.isList (x:=u) (by simpa using hu) fun h' st' sb=>?_
    have I1:Inv X pins σ H { s with heap:=h' }:=I.turned (t':=s.toks) (fun b o hb e=>(sb.2 b hb).trans e) f0 f1 f3 f4 f5
    obtain ⟨o,e,c,d⟩:=id st'
    exact ⟨u,rfl,Wn (s:={ s with heap:=h' }) e c d (by decide) ⟨x,H,I1,ru,⟨rfl,fun ys hy=>by rw [I.list_inj hy hq];exact hx⟩,st',fun b hb=>(hf b hb).1⟩⟩
  done:=by
    intro X hP hw hK hc i pins s σ H E I hf st hg
    subst hP hw hK
    obtain ⟨xs,hq,hx⟩:=hg
    obtain ⟨its,rv,p,hz⟩:=I.list hq
    obtain ⟨f0,f1,f2,f3,f4,f5⟩:=hf it (by simp)
    have hl:=rv.length
    exact wpAny_pyNext_list_end (I.ok.hd hc) st p.isList (by simp;omega) fun h' eb=>⟨rfl,I.turned (t':=s.toks) (fun b o hb e=>eb b o hb e) f0 f1 f3 f4 f5⟩
  self:=fun _ _ _ _ _ st h=>wpAny_pyIter_listiter st h
theorem WA {P:Program} {w:World} {K:PySem.W.Frag} {tg:Expr} (a it:Addr):Turn P w K tg (Itt K a) [it] it (fun i h=>h.IsTupleIter it a i) where
  mem:=by simp
  obj:=fun i h st b hb=>by
    have e:b=it:=by simpa using hb
    subst e
    obtain ⟨o,e,c,d⟩:=st
    exact ⟨o,e,fun v z=>by rw [d] at z;cases z⟩
  keep:=fun i h h' st k=>st.at fun o e=>k it (by simp) o e
  item:=by
    intro X hP hw hK hc i pins s σ H E I hf st hg
    subst hP hw hK
    obtain ⟨xs,x,hq,hx⟩:=hg
    obtain ⟨its,rv,p,hz⟩:=I.tuple hq
    obtain ⟨u,hu,ru⟩:=rv.get hx
    obtain ⟨f0,f1,f2,f3,f4,f5⟩:=hf it (by simp)
    refine wpAny_pyNext_tuple_item st (show s.heap.IsTuple a its.toArray from p) (x:=u) (by simpa using hu) fun h' st' sb=>?_
    have I1:Inv X pins σ H { s with heap:=h' }:=I.turned (t':=s.toks) (fun b o hb e=>(sb.2 b hb).trans e) f0 f1 f3 f4 f5
    obtain ⟨o,e,c,d⟩:=id st'
    exact ⟨u,rfl,Wn (s:={ s with heap:=h' }) e c d (by decide) ⟨x,H,I1,ru,⟨rfl,fun ys hy=>by rw [I.tuple_inj hy hq];exact hx⟩,st',fun b hb=>(hf b hb).1⟩⟩
  done:=by
    intro X hP hw hK hc i pins s σ H E I hf st hg
    subst hP hw hK
    obtain ⟨xs,hq,hx⟩:=hg
    obtain ⟨its,rv,p,hz⟩:=I.tuple hq
    obtain ⟨f0,f1,f2,f3,f4,f5⟩:=hf it (by simp)
    have hl:=rv.length
    exact wpAny_pyNext_tuple_end (I.ok.hd hc) st (show s.heap.IsTuple a its.toArray from p) (by simp;omega) fun h' eb=>⟨rfl,I.turned (t':=s.toks) (fun b o hb e=>eb b o hb e) f0 f1 f3 f4 f5⟩
  self:=fun _ _ _ _ _ st h=>wpAny_pyIter_tupleiter st h
theorem W0 {P:Program} {w:World} {K:PySem.W.Frag} {tg:Expr} (it:Addr) (lo:Int) (n:Nat):Turn P w K tg (Itr lo n) [it] it (fun i h=>IsRangeIter h it (lo + (i:Nat) * 1) ((n:Int) - (i:Nat)) 1) where
  mem:=by simp
  obj:=fun i h st b hb=>by
    have e:b=it:=by simpa using hb
    subst e
    exact ⟨_,st,fun v z=>by
      have z':Data.fields _=Data.cell v:=z
      cases z'⟩
  keep:=fun i h h' st k=>k it (by simp) _ st
  item:=by
    intro X hP hw hK hc i pins s σ H E I hf st hg
    subst hP hw hK
    obtain ⟨f0,f1,f2,f3,f4,f5⟩:=hf it (by simp)
    have W:=Walks.range (prog:=X.prog) (w:=X.w) (I.ok.hd hc) it lo 1 n
    refine W.item i s _ _ hg st fun v h' tk hv st' kk=>?_
    obtain ⟨t,rfl⟩:=hv
    have I1:Inv X pins σ H { s with heap:=h',toks:=tk }:=I.turned (fun b o hb e=>kk b o (by simpa using hb) e) f0 f1 f3 f4 f5
    refine ⟨_,rfl,Wn (s:={ s with heap:=h',toks:=tk }) (n:="range_iterator") st' rfl rfl (by decide) ⟨.int (lo + i),H,I1,⟨t,?_⟩,⟨rfl,rfl⟩,st',fun b hb=>(hf b hb).1⟩⟩
    rw [Int.mul_one]
  done:=by
    intro X hP hw hK hc i pins s σ H E I hf st hg
    subst hP hw hK
    obtain ⟨f0,f1,f2,f3,f4,f5⟩:=hf it (by simp)
    exact wpAny_pyNext_range_end (I.ok.hd hc) st (by have:n≤i:=hg;omega) fun h' eb=>⟨rfl,I.turned (t':=s.toks) (fun b o hb e=>eb b o hb e) f0 f1 f3 f4 f5⟩
  self:=fun _ _ _ _ _ st h=>wpAny_pyIter_rangeiter st h
end L2
namespace L2
open PySem PySem.Spec PyProof.Rows
section
variable {X:Cx} {tg:Expr}
def NS (K:PySem.W.Frag) (tl:TE):TI:=fun σ H R=>tl σ H fun x H1=>∃ a,x=.ref a∧(∃ xs,SqL K H1 a xs)∧R (Itl K a) H1
def Rn (K:PySem.W.Frag) (tl:TE):TI:=fun σ H R=>tl σ H fun x H1=>∃ a,x=.ref a∧(∃ xs,SqT K H1 a xs)∧R (Itt K a) H1
theorem QY {l:Expr} {tl:TE} (hl:PE X l tl):PI X tg l (NS X.K tl):=by
  intro pins s σ H R I h
  refine thn (hl pins s σ H _ I h) fun v s1 ⟨x,H1,I1,r1,q1⟩=>?_
  obtain ⟨a,e,⟨xs,hq⟩,q⟩:=q1
  subst e
  cases r1
  obtain ⟨its,rv,p,hz⟩:=I1.list hq
  refine wpAny_pyIter_list p.isList ?_
  refine ⟨s1.heap.objs.size,[s1.heap.objs.size],_,_,H1,rfl,I1.kept (t':=s1.toks) fun b o e=>Heap.get?_push_of_some _ e,Gc a _,⟨_,Heap.get?_push_size _ rfl,rfl,rfl⟩,fun b hb=>?_,q⟩
  have e:b=s1.heap.objs.size:=by simpa using hb
  subst e
  exact I1.fpOk (Nat.le_refl _) (I1.hok.fresh (Nat.le_refl _))
theorem YZ {l:Expr} {tl:TE} (hl:PE X l tl):PI X tg l (Rn X.K tl):=by
  intro pins s σ H R I h
  refine thn (hl pins s σ H _ I h) fun v s1 ⟨x,H1,I1,r1,q1⟩=>?_
  obtain ⟨a,e,⟨xs,hq⟩,q⟩:=q1
  subst e
  cases r1
  obtain ⟨its,rv,p,hz⟩:=I1.tuple hq
  refine wpAny_pyIter_tuple (show s1.heap.IsTuple a its.toArray from p) ?_
  refine ⟨s1.heap.objs.size,[s1.heap.objs.size],_,_,H1,rfl,I1.kept (t':=s1.toks) fun b o e=>Heap.get?_push_of_some _ e,WA a _,⟨_,Heap.get?_push_size _ rfl,rfl,rfl⟩,fun b hb=>?_,q⟩
  have e:b=s1.heap.objs.size:=by simpa using hb
  subst e
  exact I1.fpOk (Nat.le_refl _) (I1.hok.fresh (Nat.le_refl _))
theorem Ld {pins:List (Addr × Obj)} {σ:St} {H:Hp} {s:Shared} {R:It→Hp→Prop} {E:Value→Shared→Prop} {lo hi:Int} {t u v:Tok} {tk:Nat} (I:Inv X pins σ H s) (h1:-(2 ^ 62)≤lo) (h2:lo < 2 ^ 62) (h3:-(2 ^ 62)≤hi) (h4:hi < 2 ^ 62)
    (q:R (Itr lo (hi - lo).toNat) H):wpAny (model X.prog X.w) X.A (pyIter (.ref s.heap.objs.size)) (PIE X pins σ tg R) E { s with heap:=s.heap.push { cls:=.type "range", data:=.fields #[.int lo t,.int hi u,.int 1 v] },toks:=tk }:=by
  refine wpAny_pyIter_range (IsRange.new ..) (small_one h1 h2 h3 h4) ?_
  have I1:Inv X pins σ H { s with heap:=s.heap.push { cls:=.type "range", data:=.fields #[.int lo t,.int hi u,.int 1 v] },toks:=tk }:=I.kept fun b o e=>Heap.get?_push_of_some _ e
  refine ⟨(s.heap.push { cls:=.type "range", data:=.fields #[.int lo t,.int hi u,.int 1 v] }).objs.size,[(s.heap.push { cls:=.type "range", data:=.fields #[.int lo t,.int hi u,.int 1 v] }).objs.size],_,_,H,rfl,
    I1.kept (t':=tk) fun b o e=>Heap.get?_push_of_some _ e,W0 _ lo (hi - lo).toNat,?_,fun b hb=>?_,q⟩
  · have e1:lo + ((0:Nat):Int) * 1=lo:=by simp
    have e2:(((hi - lo).toNat:Nat):Int) - ((0:Nat):Int)=Builtin.Range.rangeSize lo hi 1:=by rw [rangeSize_one];split <;> omega
    show IsRangeIter _ _ (lo + ((0:Nat):Int) * 1) ((((hi - lo).toNat:Nat):Int) - ((0:Nat):Int)) 1
    rw [e1,e2]
    exact Heap.get?_push_size _ rfl
  · have e:b=(s.heap.push { cls:=.type "range", data:=.fields #[.int lo t,.int hi u,.int 1 v] }).objs.size:=by simpa using hb
    subst e
    exact I1.fpOk (Nat.le_refl _) (I1.hok.fresh (Nat.le_refl _))
def O8 (ta:TA):TI:=fun σ H R=>ta σ H fun vs H1=>∃ j:Int,vs=[.int j]∧-(2 ^ 62)≤j∧j < 2 ^ 62∧R (Itr 0 j.toNat) H1
theorem QO {a:Expr} {ta:TA} {p pos:Pos} (hg:Gl X "range") (hm:X.mg "range" = none) (ha:PA X [a] ta) (hs:starEach [a] X.env=[(false,eval a X.env)]:=by rfl):PI X tg (.Call (.Name "range" p) [a] [] pos) (O8 ta):=by
  intro pins s σ H R I h
  refine Call_ (ZS I hg hm boot_range (PyProof.Rows.callWith_type1 (thn (ha pos pins s σ H _ I h) fun us s1 ⟨vs,H1,I1,r1,q1⟩=>?_) hs rfl))
  obtain ⟨j,e,q1,q2,q⟩:=q1
  subst e
  cases r1 with
  | cons r rr =>
    cases rr
    obtain ⟨t,rfl⟩:=r
    exact call_range_1 (Ld I1 (by omega) (by omega) q1 q2 (by simpa using q))
def Rk (wi:TI) (g:TG) (tb:TS):TS:=fun D σ H=>wi σ H fun J H1=>∃ W:Nat→Nat→St→Hp→Prop,(∃ m,W 0 m σ H1)∧∀ i m σ H,W i m σ H →
  (J.stop i H∧D.nx σ H)∨(J.go i H∧∃ N:St→Hp→Prop,(∀ σ' H',N σ' H'→∃ m',m' < m∧W (i + 1) m' σ' H')∧∀ x H',J.yld i H x H'→g x σ H' fun σ2 H2=>tb { D with nx:=N,ct:=N,bk:=D.nx } σ2 H2)
def Ja (fp:List Addr) (h:Heap):List (Addr × Obj):=fp.filterMap fun b=>(h.get? b).map fun o=>(b,o)
theorem ZX {fp:List Addr} {h:Heap} {b:Addr} {o:Obj} (hb:b ∈ fp) (e:h.get? b=some o):(b,o) ∈ Ja fp h:=List.mem_filterMap.mpr ⟨b,hb,by rw [e];rfl⟩
theorem Gn {fp:List Addr} {h:Heap} {p:Addr × Obj} (hp:p ∈ Ja fp h):p.1 ∈ fp∧h.get? p.1=some p.2:=by
  obtain ⟨b,hb,e⟩:=List.mem_filterMap.mp hp
  cases q:h.get? b with
  | none=>rw [q] at e;cases e
  | some o =>
    rw [q] at e
    have e':(b,o)=p:=Option.some.inj e
    subst e'
    exact ⟨hb,q⟩
theorem Inv.pinned {pins:List (Addr × Obj)} {σ:St} {H:Hp} {s:Shared} {fp:List Addr} (I:Inv X pins σ H s) (hf:∀ b ∈ fp,Yx X pins H b) (ho:∀ b ∈ fp,∃ o,s.heap.get? b=some o∧∀ v,o.data≠.cell v):Inv X (pins ++ Ja fp s.heap) σ H s :=
  I.pins_of fun p hp=>(List.mem_append.mp hp).elim (fun z=>I.pin p (List.mem_append_right _ z)) fun z=>by
    obtain ⟨hb,e⟩:=Gn z
    obtain ⟨f0,f1,f2,_⟩:=hf p.1 hb
    obtain ⟨o,e',d⟩:=ho p.1 hb
    rw [e] at e';cases e'
    exact ⟨e,f0,f1,f2,d⟩
theorem Inv.unpinned {pins pl:List (Addr × Obj)} {σ:St} {H:Hp} {s:Shared} (I:Inv X (pins ++ pl) σ H s):Inv X pins σ H s:=I.pins_of fun p hp=>I.pin p (List.mem_append_right _ (List.mem_append_left _ hp))
theorem QU {iter:Expr} {body:List Stmt} {wi:TI} {g:TG} {tb:TS} {pos:Pos} (hp:PassesOwn (model X.prog X.w) X.A X.env X.xe) (hc:X.calm=true) (hi:PI X tg iter wi) (hg:PG X tg g) (hb:PSs X body tb)
    (hs:∀ x,foldedSetIterable iter X.env x=pure x:=by intro _;rfl):PS X (.For tg iter body [] pos) (Rk wi g tb):=by
  intro pins s σ H D I h
  refine wpAny_For (thn (hi pins s σ H _ I h) fun v s1 h1=>thn h1 fun itv s2 h2=>?_) hs
  obtain ⟨it,fp,tn,J,H2,e,I2,T,st2,f2,W,⟨m0,w0⟩,turn⟩:=h2
  subst e
  have stat:∀ {H':Hp},(∀ b ∈ fp,H' b=none)→∀ b ∈ fp,Yx X pins H' b:=fun hn b hb=>⟨hn b hb,(f2 b hb).2⟩
  refine codeAny_forLoop_any (fun n s'=>∃ i σ' H',Inv X pins σ' H' s'∧tn i s'.heap∧(∀ b ∈ fp,H' b=none)∧W i n σ' H') ?_ m0 ⟨0,σ,H2,I2,st2,fun b hb=>(f2 b hb).1,w0⟩
  rintro n s3 ⟨i,σ3,H3,I3,st3,fr3,w3⟩
  rcases turn i n σ3 H3 w3 with ⟨stop,qn⟩ | ⟨go,N,hN,step⟩
  · refine wpAny_passesOwn hp (thn (T.done X rfl rfl rfl hc i pins s3 σ3 H3 X.xe I3 (stat fr3) st3 stop) fun r s4 ⟨hr,I4⟩=>?_)
    subst hr
    exact wpAny_execs_nil ⟨σ3,H3,I4,qn⟩
  · refine wpAny_passesOwn hp (thn (T.item X rfl rfl rfl hc i pins s3 σ3 H3 X.xe I3 (stat fr3) st3 go) fun r s4 ⟨u,hr,h4⟩=>?_)
    subst hr
    refine wpAny_passesOwn hp (thn h4 fun _ s5 ⟨x,H5,I5,r5,y5,st5,fr5⟩=>?_)
    have I5':=I5.pinned (stat fr5) (T.obj _ _ st5)
    refine wpAny_passesOwn hp (thn (hg _ s5 σ3 H5 x u _ I5' r5 (step x H5 y5)) fun _ s6 ⟨σ6,H6,I6,q6⟩=>?_)
    refine wpAny_passesOwn hp (thn (hb _ s6 σ6 H6 _ I6 q6) fun f s7 q7=>?_)
    have again:∀ {σ7:St} {H7:Hp},Inv X (pins ++ Ja fp s5.heap) σ7 H7 s7→N σ7 H7→∃ m,m < n∧∃ i σ' H',Inv X pins σ' H' s7∧tn i s7.heap∧(∀ b ∈ fp,H' b=none)∧W i m σ' H':=fun {σ7 H7} I7 n7=>by
      obtain ⟨m',hm,w7⟩:=hN σ7 H7 n7
      refine ⟨m',hm,i + 1,σ7,H7,I7.unpinned,T.keep _ _ _ st5 fun b hb o e=>(I7.pin (b,o) (List.mem_append_right _ (List.mem_append_right _ (ZX hb e)))).1,fun b hb=>?_,w7⟩
      obtain ⟨o,e,d⟩:=T.obj _ _ st5 b hb
      exact (I7.pin (b,o) (List.mem_append_right _ (List.mem_append_right _ (ZX hb e)))).2.1
    cases f with
    | next=>obtain ⟨σ7,H7,I7,n7⟩:=q7;exact again I7 n7
    | cont=>obtain ⟨σ7,H7,I7,n7⟩:=q7;exact again I7 n7
    | brk=>obtain ⟨σ7,H7,I7,q7⟩:=q7;exact ⟨σ7,H7,I7.unpinned,q7⟩
    | ret v=>obtain ⟨x7,σ7,H7,I7,r7,q7⟩:=q7;exact ⟨x7,σ7,H7,I7.unpinned,r7,q7⟩
end
theorem YW {K:PySem.W.Frag} {a:Addr} {xs:List V} {g:TG} {tb:TS} {D:Ends} {σ:St} {H:Hp} (Pv:Nat→St→Hp→Prop) (h0:Pv 0 σ H) (hl:∀ i σ H,i≤xs.length→Pv i σ H→SqL K H a xs)
    (hs:∀ i x σ H,xs[i]?=some x→Pv i σ H→g x σ H fun σ2 H2=>tb { D with nx:=Pv (i + 1),ct:=Pv (i + 1),bk:=D.nx } σ2 H2) (hd:∀ σ H,Pv xs.length σ H→D.nx σ H) :
    ∃ W:Nat→Nat→St→Hp→Prop,(∃ m,W 0 m σ H)∧∀ i m σ H,W i m σ H →
      ((Itl K a).stop i H∧D.nx σ H)∨((Itl K a).go i H∧∃ N:St→Hp→Prop,(∀ σ' H',N σ' H'→∃ m',m' < m∧W (i + 1) m' σ' H')∧∀ x H',(Itl K a).yld i H x H'→g x σ H' fun σ2 H2=>tb { D with nx:=N,ct:=N,bk:=D.nx } σ2 H2):=by
  refine ⟨fun i m σ H=>m=xs.length - i∧i≤xs.length∧Pv i σ H,⟨xs.length,by simp,Nat.zero_le _,h0⟩,?_⟩
  rintro i m σ H ⟨rfl,hi,p⟩
  have q:=hl i σ H hi p
  by_cases hlt:i < xs.length
  · refine .inr ⟨⟨xs,xs[i],q,by simp [hlt]⟩,Pv (i + 1),fun σ' H' p'=>⟨xs.length - (i + 1),by omega,rfl,hlt,p'⟩,fun x H' y=>?_⟩
    obtain ⟨e,y⟩:=y
    subst e
    exact hs i x σ _ (y xs q) p
  · have e:i=xs.length:=by omega
    subst e
    exact .inl ⟨⟨xs,q,Nat.le_refl _⟩,hd σ H p⟩
theorem J2 {K:PySem.W.Frag} {a:Addr} {xs:List V} {g:TG} {tb:TS} {D:Ends} {σ:St} {H:Hp} (Pv:Nat→St→Hp→Prop) (h0:Pv 0 σ H) (hl:∀ i σ H,i≤xs.length→Pv i σ H→SqT K H a xs)
    (hs:∀ i x σ H,xs[i]?=some x→Pv i σ H→g x σ H fun σ2 H2=>tb { D with nx:=Pv (i + 1),ct:=Pv (i + 1),bk:=D.nx } σ2 H2) (hd:∀ σ H,Pv xs.length σ H→D.nx σ H) :
    ∃ W:Nat→Nat→St→Hp→Prop,(∃ m,W 0 m σ H)∧∀ i m σ H,W i m σ H →
      ((Itt K a).stop i H∧D.nx σ H)∨((Itt K a).go i H∧∃ N:St→Hp→Prop,(∀ σ' H',N σ' H'→∃ m',m' < m∧W (i + 1) m' σ' H')∧∀ x H',(Itt K a).yld i H x H'→g x σ H' fun σ2 H2=>tb { D with nx:=N,ct:=N,bk:=D.nx } σ2 H2):=by
  refine ⟨fun i m σ H=>m=xs.length - i∧i≤xs.length∧Pv i σ H,⟨xs.length,by simp,Nat.zero_le _,h0⟩,?_⟩
  rintro i m σ H ⟨rfl,hi,p⟩
  have q:=hl i σ H hi p
  by_cases hlt:i < xs.length
  · refine .inr ⟨⟨xs,xs[i],q,by simp [hlt]⟩,Pv (i + 1),fun σ' H' p'=>⟨xs.length - (i + 1),by omega,rfl,hlt,p'⟩,fun x H' y=>?_⟩
    obtain ⟨e,y⟩:=y
    subst e
    exact hs i x σ _ (y xs q) p
  · have e:i=xs.length:=by omega
    subst e
    exact .inl ⟨⟨xs,q,Nat.le_refl _⟩,hd σ H p⟩
theorem Zs {lo:Int} {n:Nat} {g:TG} {tb:TS} {D:Ends} {σ:St} {H:Hp} (Pv:Nat→St→Hp→Prop) (h0:Pv 0 σ H)
    (hs:∀ i σ H,i < n→Pv i σ H→g (.int (lo + i)) σ H fun σ2 H2=>tb { D with nx:=Pv (i + 1),ct:=Pv (i + 1),bk:=D.nx } σ2 H2) (hd:∀ σ H,Pv n σ H→D.nx σ H) :
    ∃ W:Nat→Nat→St→Hp→Prop,(∃ m,W 0 m σ H)∧∀ i m σ H,W i m σ H →
      ((Itr lo n).stop i H∧D.nx σ H)∨((Itr lo n).go i H∧∃ N:St→Hp→Prop,(∀ σ' H',N σ' H'→∃ m',m' < m∧W (i + 1) m' σ' H')∧∀ x H',(Itr lo n).yld i H x H'→g x σ H' fun σ2 H2=>tb { D with nx:=N,ct:=N,bk:=D.nx } σ2 H2):=by
  refine ⟨fun i m σ H=>m=n - i∧i≤n∧Pv i σ H,⟨n,by simp,Nat.zero_le _,h0⟩,?_⟩
  rintro i m σ H ⟨rfl,hi,p⟩
  by_cases hlt:i < n
  · refine .inr ⟨hlt,Pv (i + 1),fun σ' H' p'=>⟨n - (i + 1),by omega,rfl,hlt,p'⟩,fun x H' y=>?_⟩
    obtain ⟨e,y⟩:=y
    subst e y
    exact hs i σ _ hlt p
  · have e:i=n:=by omega
    subst e
    exact .inl ⟨Nat.le_refl _,hd σ H p⟩
end L2
namespace L2
open PySem PySem.Spec PyProof.Rows
abbrev R2:=V→V→Hp→VK→Prop
def OpR (X:Cx) (f:Value→Value→Sem Value) (r:R2):Prop :=
  ∀ (pins:List (Addr × Obj)) (s:Shared) (σ:St) (H:Hp) (x y:V) (v u:Value) (Q:VK),Inv X pins σ H s→RelV x v→RelV y u→r x y H Q →
    wpAny (model X.prog X.w) X.A (f v u) (EP X pins σ Q) X.xe s
def Zw (X:Cx) (f:Value) (r:List V→Hp→VK→Prop):Prop :=
  ∀ (pins:List (Addr × Obj)) (s:Shared) (σ:St) (H:Hp) (xs:List V) (us:List Value) (Q:VK),Inv X pins σ H s→Vals xs us→r xs H Q →
    wpAny (model X.prog X.w) X.A (call f us) (EP X pins σ Q) X.xe s
def tOp (r:R2) (ta tb:TE):TE:=fun σ H Q=>ta σ H fun x H1=>tb σ H1 fun y H2=>r x y H2 Q
def rI (C:Int→Int→Prop) (g:Int→Int→V):R2:=fun x y H Q=>∃ i j,x=.int i∧y=.int j∧C i j∧Q (g i j) H
def rI0 (g:Int→Int→V):R2:=fun x y H Q=>∃ i j,x=.int i∧y=.int j∧Q (g i j) H
section
variable {X:Cx} {a b c:Expr} {ta tb tc:TE} {pos:Pos}
theorem OM (ha:PE X a ta) (hb:PE X b tb) {pins:List (Addr × Obj)} {s:Shared} {σ:St} {H:Hp} {R:V→V→Hp→Prop} (I:Inv X pins σ H s)
    (h:ta σ H fun x H1=>tb σ H1 fun y H2=>R x y H2) {Q:Value→Shared→Prop} {f:Value→Value→Sem Value}
    (hf:∀ v u s2 x y H2,Inv X pins σ H2 s2→RelV x v→RelV y u→R x y H2→wpAny (model X.prog X.w) X.A (f v u) Q X.xe s2) :
    wpAny (model X.prog X.w) X.A (eval a X.env) (fun v s₁=>wpAny (model X.prog X.w) X.A (eval b X.env) (fun u s₂=>wpAny (model X.prog X.w) X.A (f v u) Q X.xe s₂) X.xe s₁) X.xe s:=by
  refine thn (ha pins s σ H _ I h) fun v s1 ⟨x,H1,I1,r1,q1⟩=>?_
  refine thn (hb pins s1 σ H1 _ I1 q1) fun u s2 ⟨y,H2,I2,r2,q2⟩=>?_
  exact hf v u s2 x y H2 I2 r1 r2 q2
theorem Qm {op:Operator} {r:R2} (ho:OpR X (binaryOp op) r) (ha:PE X a ta) (hb:PE X b tb):PE X (.BinOp a op b pos) (tOp r ta tb):=by
  intro pins s σ H Q I h
  exact wpAny_BinOp (OM ha hb I h fun v u s2 x y H2 I2 rx ry q=>ho pins s2 σ H2 x y v u Q I2 rx ry q)
theorem opI {f:Value→Value→Sem Value} {C:Int→Int→Prop} {g:Int→Int→Int}
    (rule:∀ (i j:Int) (t u:Tok) (s:Shared) (Q:Value→Shared→Prop) (E:Value→Shared→Prop),C i j→Q (.int (g i j) s.toks) { s with toks:=s.toks + 1 }→wpAny (model X.prog X.w) X.A (f (.int i t) (.int j u)) Q E s) :
    OpR X f (rI C fun i j=>.int (g i j)):=by
  intro pins s σ H x y v u Q I rx ry h
  obtain ⟨i,j,rfl,rfl,hc,q⟩:=h
  obtain ⟨t,rfl⟩:=rx
  obtain ⟨t',rfl⟩:=ry
  exact rule i j t t' s _ _ hc ⟨.int (g i j),H,I.tok _,⟨_,rfl⟩,q⟩
theorem Px {f:Value→Value→Sem Value} {g:Int→Int→Int}
    (rule:∀ (i j:Int) (t u:Tok) (s:Shared) (Q:Value→Shared→Prop) (E:Value→Shared→Prop),Q (.int (g i j) s.toks) { s with toks:=s.toks + 1 }→wpAny (model X.prog X.w) X.A (f (.int i t) (.int j u)) Q E s) :
    OpR X f (rI0 fun i j=>.int (g i j)):=by
  intro pins s σ H x y v u Q I rx ry h
  obtain ⟨i,j,rfl,rfl,q⟩:=h
  obtain ⟨t,rfl⟩:=rx
  obtain ⟨t',rfl⟩:=ry
  exact rule i j t t' s _ _ ⟨.int (g i j),H,I.tok _,⟨_,rfl⟩,q⟩
theorem PH {f:Value→Value→Sem Value} {g:Int→Int→Bool}
    (rule:∀ (i j:Int) (t u:Tok) (s:Shared) (Q:Value→Shared→Prop) (E:Value→Shared→Prop),Q (.bool (g i j)) s→wpAny (model X.prog X.w) X.A (f (.int i t) (.int j u)) Q E s) :
    OpR X f (rI0 fun i j=>.bl (g i j)):=by
  intro pins s σ H x y v u Q I rx ry h
  obtain ⟨i,j,rfl,rfl,q⟩:=h
  obtain ⟨t,rfl⟩:=rx
  obtain ⟨t',rfl⟩:=ry
  exact rule i j t t' s _ _ ⟨.bl (g i j),H,I,rfl,q⟩
def P7 (i j:Int):Prop:=0 < j∧j < 1073741824
def P3 (i j:Int):Prop:=0≤j∧j≤1000000∧i.natAbs < 2 ^ 64
def CMul (i j:Int):Prop:=(-(2 ^ 64) < i∧i < 2 ^ 64)∨(-(2 ^ 64) < j∧j < 2 ^ 64)
theorem CMul.ok {i j:Int} (h:CMul i j):IntMulOk i j:=by
  rcases h with ⟨h1,h2⟩ | ⟨h1,h2⟩
  · exact .of_left (intBits_le_64 h1 h2)
  · exact .of_right (intBits_le_64 h1 h2)
theorem QG:OpR X (binaryOp .Add) (rI0 fun i j=>.int (i + j)):=Px fun _ _ _ _ _ _ _ q=>add_int q
theorem ZO:OpR X (binaryOp .Sub) (rI0 fun i j=>.int (i - j)):=Px fun _ _ _ _ _ _ _ q=>sub_int q
theorem ZN:OpR X (binaryOp .Mult) (rI CMul fun i j=>.int (i * j)):=opI fun _ _ _ _ _ _ _ hc q=>mul_int q hc.ok
theorem QZ:OpR X (binaryOp .FloorDiv) (rI P7 fun i j=>.int (i / j)):=opI fun i j _ _ _ _ _ hc q=>by
  have h1:(0:Int) < j:=hc.1
  have h2:j < 1073741824:=hc.2
  exact floordiv_int (by omega) (by rw [Int.fdiv_eq_ediv_of_nonneg i (by omega)];exact q) (.inl (PyProof.noPylong_small (by omega)))
theorem Qz:OpR X (binaryOp .Mod) (rI (fun _ j=>0 < j) fun i j=>.int (i % j)):=opI fun i j _ _ _ _ _ hc q=>by
  have h1:(0:Int) < j:=hc
  exact mod_int' (by omega) (by rw [Int.fmod_eq_emod_of_nonneg i (by omega)];exact q)
theorem LZ:OpR X (binaryOp .Pow) (rI P3 fun i j=>.int (i ^ j.toNat)):=opI fun _ _ _ _ _ _ _ hc q=>pow_int_small hc.1 hc.2.1 hc.2.2 q
end
def PU:V→V→Bool
  | .non,.non=>true | .non,.int _=>true | .int _,.non=>true | .non,.bl _=>true | .bl _,.non=>true | .non,.str _=>true | .str _,.non=>true
  | .int _,.int _=>true | .bl _,.bl _=>true | .str _,.str _=>true | .byt _,.byt _=>true
  | .int _,.str _=>true | .str _,.int _=>true | .bl _,.str _=>true | .str _,.bl _=>true
  | _,_=>false
def rEq:R2:=fun x y H Q=>PU x y=true∧Q (.bl (decide (x=y))) H
def rNe:R2:=fun x y H Q=>PU x y=true∧Q (.bl (!decide (x=y))) H
theorem W7 {i j:Int}:decide (V.int i=V.int j)=(i == j):=by
  rw [Bool.eq_iff_iff]
  simp
theorem Lf {i j:Bool}:decide (V.bl i=V.bl j)=(i == j):=by
  rw [Bool.eq_iff_iff]
  simp
theorem Vt {i j:Str}:decide (V.str i=V.str j)=(i == j):=by
  rw [Bool.eq_iff_iff]
  simp
theorem Vi {i j:Array UInt8}:decide (V.byt i=V.byt j)=(i.toList == j.toList):=by
  rw [Bool.eq_iff_iff]
  cases i
  cases j
  simp
section
variable {X:Cx} {a b c:Expr} {ta tb tc:TE} {pos:Pos}
theorem QC {pins:List (Addr × Obj)} {σ:St} {H:Hp} {s:Shared} {Q:VK} {k k':Bool} (I:Inv X pins σ H s) (q:Q (.bl k) H) (e:k=k'):EP X pins σ Q (.bool k') s:=by
  subst e
  exact ⟨.bl k,H,I,rfl,q⟩
theorem ZK:OpR X (compareOp .Eq) rEq:=by
  intro pins s σ H x y v u Q I rx ry h
  obtain ⟨hs,q⟩:=h
  cases x with
  | non =>
    cases rx
    cases y with
    | non=>cases ry;exact PySem.EqNone.eq_none_none (QC I q (by simp))
    | bl j=>cases ry;exact PySem.EqNone.eq_none_bool (QC I q (by simp))
    | int j=>obtain ⟨t',rfl⟩:=ry;exact PySem.EqNone.eq_none_int (QC I q (by simp))
    | str j=>obtain ⟨t',rfl⟩:=ry;exact PySem.EqNone.eq_none_str (QC I q (by simp))
    | _=>exact absurd (show false=true from hs) Bool.false_ne_true
  | bl i =>
    cases rx
    cases y with
    | non=>cases ry;exact PySem.EqNone.eq_bool_none (QC I q (by simp))
    | bl j=>cases ry;exact eq_bool (QC I q Lf)
    | str j=>obtain ⟨t',rfl⟩:=ry;exact PySem.EqMixed.eq_bool_str (QC I q (by simp))
    | _=>exact absurd (show false=true from hs) Bool.false_ne_true
  | int i =>
    obtain ⟨t,rfl⟩:=rx
    cases y with
    | non=>cases ry;exact PySem.EqNone.eq_int_none (QC I q (by simp))
    | int j=>obtain ⟨t',rfl⟩:=ry;exact eq_int (QC I q W7)
    | str j=>obtain ⟨t',rfl⟩:=ry;exact PySem.EqMixed.eq_int_str (QC I q (by simp))
    | _=>exact absurd (show false=true from hs) Bool.false_ne_true
  | str i =>
    obtain ⟨t,rfl⟩:=rx
    cases y with
    | non=>cases ry;exact PySem.EqNone.eq_str_none (QC I q (by simp))
    | bl j=>cases ry;exact PySem.EqMixed.eq_str_bool (QC I q (by simp))
    | int j=>obtain ⟨t',rfl⟩:=ry;exact PySem.EqMixed.eq_str_int (QC I q (by simp))
    | str j=>obtain ⟨t',rfl⟩:=ry;exact eq_str (QC I q Vt)
    | _=>exact absurd (show false=true from hs) Bool.false_ne_true
  | byt i =>
    obtain ⟨t,rfl⟩:=rx
    cases y with
    | byt j=>obtain ⟨t',rfl⟩:=ry;exact PySem.W.eq_bytes (QC I q Vi)
    | _=>exact absurd (show false=true from hs) Bool.false_ne_true
  | _=>cases y <;> exact absurd (show false=true from hs) Bool.false_ne_true
theorem Mi:OpR X (compareOp .NotEq) rNe:=by
  intro pins s σ H x y v u Q I rx ry h
  obtain ⟨hs,q⟩:=h
  cases x with
  | non =>
    cases rx
    cases y with
    | non=>cases ry;exact PySem.EqNone.ne_none_none (QC I q (by simp))
    | bl j=>cases ry;exact PySem.EqNone.ne_none_bool (QC I q (by simp))
    | int j=>obtain ⟨t',rfl⟩:=ry;exact PySem.EqNone.ne_none_int (QC I q (by simp))
    | str j=>obtain ⟨t',rfl⟩:=ry;exact PySem.EqNone.ne_none_str (QC I q (by simp))
    | _=>exact absurd (show false=true from hs) Bool.false_ne_true
  | bl i =>
    cases rx
    cases y with
    | non=>cases ry;exact PySem.EqNone.ne_bool_none (QC I q (by simp))
    | bl j=>cases ry;exact ne_bool (QC I q (congrArg not Lf))
    | str j=>obtain ⟨t',rfl⟩:=ry;exact PySem.EqMixed.ne_bool_str (QC I q (by simp))
    | _=>exact absurd (show false=true from hs) Bool.false_ne_true
  | int i =>
    obtain ⟨t,rfl⟩:=rx
    cases y with
    | non=>cases ry;exact PySem.EqNone.ne_int_none (QC I q (by simp))
    | int j=>obtain ⟨t',rfl⟩:=ry;exact ne_int (QC I q (congrArg not W7))
    | str j=>obtain ⟨t',rfl⟩:=ry;exact PySem.EqMixed.ne_int_str (QC I q (by simp))
    | _=>exact absurd (show false=true from hs) Bool.false_ne_true
  | str i =>
    obtain ⟨t,rfl⟩:=rx
    cases y with
    | non=>cases ry;exact PySem.EqNone.ne_str_none (QC I q (by simp))
    | bl j=>cases ry;exact PySem.EqMixed.ne_str_bool (QC I q (by simp))
    | int j=>obtain ⟨t',rfl⟩:=ry;exact PySem.EqMixed.ne_str_int (QC I q (by simp))
    | str j=>obtain ⟨t',rfl⟩:=ry;exact ne_str (QC I q (congrArg not Vt))
    | _=>exact absurd (show false=true from hs) Bool.false_ne_true
  | byt i =>
    obtain ⟨t,rfl⟩:=rx
    cases y with
    | byt j=>obtain ⟨t',rfl⟩:=ry;exact PySem.W.ne_bytes (QC I q (congrArg not Vi))
    | _=>exact absurd (show false=true from hs) Bool.false_ne_true
  | _=>cases y <;> exact absurd (show false=true from hs) Bool.false_ne_true
theorem GJ:OpR X (compareOp .Lt) (rI0 fun i j=>.bl (decide (i < j))):=PH fun _ _ _ _ _ _ _ q=>lt_int q
theorem Jp:OpR X (compareOp .Gt) (rI0 fun i j=>.bl (decide (j < i))):=PH fun _ _ _ _ _ _ _ q=>gt_int q
theorem LI:OpR X (compareOp .Is) (fun x y H Q=>y=.non∧Q (.bl (decide (x=.non))) H):=by
  intro pins s σ H x y v u Q I rx ry h
  obtain ⟨rfl,q⟩:=h
  cases ry
  refine is_none_gen (QC I q ?_)
  cases x <;> first
    | (cases rx;rfl)
    | (obtain ⟨t,rfl⟩:=rx;rfl)
theorem QA (b:Expr) {op:CmpOp} (h:op≠.In:=by decide) (h2:op≠.NotIn:=by decide):behindInMarks op b=false:=by
  have e1:(op == CmpOp.In)=false:=by cases op <;> first | rfl | exact absurd rfl h
  have e2:(op == CmpOp.NotIn)=false:=by cases op <;> first | rfl | exact absurd rfl h2
  cases b <;> simp [behindInMarks,e1,e2]
theorem Yo {op:CmpOp} {r:R2} (ho:OpR X (compareOp op) r) (ha:PE X a ta) (hb:PE X b tb) (hm:behindInMarks op b=false):PE X (.Compare a [op] [b] pos) (tOp r ta tb):=by
  intro pins s σ H Q I h
  exact wpAny_Compare1 (OM ha hb I h fun v u s2 x y H2 I2 rx ry q=>ho pins s2 σ H2 x y v u Q I2 rx ry q) hm
def Pz (t:TE):TT:=fun σ H Q=>t σ H fun x H'=>∃ k,x=.bl k∧Q k H'
theorem Qy {op:CmpOp} {r:R2} (ho:OpR X (compareOp op) r) (ha:PE X a ta) (hb:PE X b tb) (hm:behindInMarks op b=false):PT X (.Compare a [op] [b] pos) (Pz (tOp r ta tb)):=by
  intro pins s σ H Q I h
  refine wpAny_isTrue_Compare1 (thn (ha pins s σ H _ I h) fun v s1 ⟨x,H1,I1,r1,q1⟩=>thn (hb pins s1 σ H1 _ I1 q1) fun u s2 ⟨y,H2,I2,r2,q2⟩ =>
    thn (ho pins s2 σ H2 x y v u _ I2 r1 r2 q2) fun c s3 ⟨z,H3,I3,r3,k,e,q3⟩=>?_) hm
  subst e
  cases r3
  exact wpAny_truthy_bool ⟨H3,I3,q3⟩
theorem Jc:(sizeLine:Nat) < 2 ^ 63:=by rw [sizeLine_eq];decide
theorem XS {x:V} {us:List Value} (r:Vals [x] us):∃ u,us=[u]∧RelV x u:=by
  cases r with
  | cons r1 r2=>cases r2;exact ⟨_,rfl,r1⟩
theorem GC {x y:V} {us:List Value} (r:Vals [x,y] us):∃ u w',us=[u,w']∧RelV x u∧RelV y w':=by
  cases r with
  | cons r1 r2 =>
    cases r2 with
    | cons r3 r4=>cases r4;exact ⟨_,_,rfl,r1,r3⟩
theorem V3 (hc:X.calm=true):Zw X (.builtin "max") (fun xs H Q=>∃ i j,xs=[.int i,.int j]∧Q (.int (if j > i then j else i)) H):=by
  intro pins s σ H xs us Q I r h
  obtain ⟨i,j,rfl,q⟩:=h
  obtain ⟨u,w',rfl,⟨t,rfl⟩,⟨t',rfl⟩⟩:=GC r
  refine max_two_ints (I.ok.hd hc) fun h' tk k=>⟨_,H,I.kept k,?_,q⟩
  by_cases hj:j > i
  · rw [if_pos hj,if_pos hj];exact ⟨_,rfl⟩
  · rw [if_neg hj,if_neg hj];exact ⟨_,rfl⟩
theorem JV:Zw X (.type "int") (fun xs H Q=>(∃ i,xs=[.int i]∧Q (.int i) H)∨∃ k,xs=[.bl k]∧Q (.int (if k then 1 else 0)) H):=by
  intro pins s σ H xs us Q I r h
  rcases h with ⟨i,rfl,q⟩ | ⟨k,rfl,q⟩
  · obtain ⟨u,rfl,t,rfl⟩:=XS r
    exact call_int_int ⟨.int i,H,I,⟨_,rfl⟩,q⟩
  · obtain ⟨u,rfl,r1⟩:=XS r
    cases r1
    exact call_int_bool ⟨.int (if k then 1 else 0),H,I.tok _,⟨_,rfl⟩,q⟩
end
end L2
namespace L2
open PySem PySem.Spec PyProof.Rows
structure ObjM (h:Heap) (x dx C:Addr) (mA:Str→Option Value):Prop where
  obj:h.get? x=some (PySem.W.instObj C dx)
  ns:h.Ns1 dx mA
  ne:dx≠x
theorem Gw {h:Heap} {dx:Addr} {mA:Str→Option Value} (n:h.Ns1 dx mA):∃ od,h.get? dx=some od∧∀ name,PySem.W.lookIn name od=some (mA name):=by
  obtain ⟨o,es,ep,ho,hd,hk,_,hm⟩:=n
  refine ⟨o,ho,fun name=>?_⟩
  have e:=hm name
  unfold nsFind findBy at e
  rw [← Array.find?_toList] at e
  unfold PySem.W.lookIn
  rw [hd]
  dsimp only
  split
  · rename_i y q
    rw [q] at e
    exact congrArg some e
  · rename_i q
    rw [q] at e
    have a:es.toList.any (·.refKey)=false:=by
      rw [List.any_eq_false]
      intro y hy
      obtain ⟨z,t,hkey⟩:=hk y (Array.mem_toList_iff.mp hy)
      simp [DictEntry.refKey,hkey]
    have a':¬ es.toList.any (·.refKey)=true:=by rw [a];exact Bool.false_ne_true
    rw [if_neg a']
    exact congrArg some e
theorem ObjM.look {h:Heap} {x dx C:Addr} {mA:Str→Option Value} (I:ObjM h x dx C mA):∃ od,PySem.W.InstAt h x (PySem.W.instObj C dx) C (some od)∧∀ name,PySem.W.lookIn name od=some (mA name) :=
  let ⟨od,ho,hl⟩:=Gw I.ns
  ⟨od,⟨I.obj,rfl,rfl,ho⟩,hl⟩
section
variable {prog:Program} {w:World} {A:Around} {E:Value→Shared→Prop} {s:Shared} {K:PySem.W.Frag} {x dx C f:Addr} {mA:Str→Option Value} {name:Str} {v:Value}
end
theorem RelO.some_of {v:V} {o:Option Value} (r:RelO (some v) o):∃ u,o=some u∧RelV v u:=by
  cases o with
  | none=>exact (show False from r).elim
  | some u=>exact ⟨u,rfl,r⟩
section
variable {P:Program} {w:World} {H H':Hp} {h h':Heap} {a C dx:Addr} {fs fs':List (Str × V)}
theorem Nj (hok:HOk P w H h) (e:H a=some (.ins C dx fs)):∃ mA,ObjM h a dx C mA∧(∀ f,RelO (fs.lookup f) (mA f))∧PySem.Within mA (fs.map (·.1))∧fs.length≤1000∧H dx=some (.own a):=by
  obtain ⟨d,z,ne,ob,mA,n,r,q⟩:=(show ObjOk P w H h a (.ins C dx fs) from hok a _ e)
  exact ⟨mA,⟨ob,n,ne⟩,r,q,z,d⟩
end
structure Cls (K:PySem.W.Frag) (C:Addr):Prop where
  pg:PySem.W.plainGet K C Str.empty=true
  hd:PySem.W.hasDictIn K C=true
  po:PySem.W.plainOver K C=true
  sa:PySem.W.findIn K (.ref C) "__setattr__" = some (some (.builtin "object.__setattr__"))
theorem Cls.get {K:PySem.W.Frag} {C:Addr} (c:Cls K C) (f:Str):PySem.W.plainGet K C f=true:=c.pg
section
variable {X:Cx} {pins:List (Addr × Obj)} {σ:St} {H:Hp} {s:Shared} {a C dx:Addr} {fs:List (Str × V)} {f:Str} {v:V} {A:Around} {E:Value→Shared→Prop}
end
section
variable {X:Cx} {o e value:Expr} {f:Str} {pos pos' tpos:Pos} {ta tv:TE}
end
section
variable {X:Cx} {pins:List (Addr × Obj)} {σ:St} {H:Hp} {s:Shared} {A:Around} {E:Value→Shared→Prop} {Q:Value→Shared→Prop} {c:Value} {b:Bool}
inductive TyOf (K:PySem.W.Frag) (H:Hp):V→Value→Prop where
  | non:TyOf K H .non (.type "NoneType")
  | bl (x:Bool):TyOf K H (.bl x) (.type "bool")
  | int (i:Int):TyOf K H (.int i) (.type "int")
  | str (x:Str):TyOf K H (.str x) (.type "str")
  | flt (x:UInt64):TyOf K H (.flt x) (.type "float")
  | lst {a:Addr} {xs:List V} (e:H a=some (.lst xs)):TyOf K H (.ref a) (.type "list")
  | frz {a:Addr} {o:Obj} {xs:List V} (e:H a=some (.frz o (.lst xs))):TyOf K H (.ref a) (.type "list")
  | tup {a:Addr} {xs:List V} (e:H a=some (.tup xs)):TyOf K H (.ref a) (.type "tuple")
  | dK {a:Addr} {kvs:List (Key × V)} (e:H a=some (.dK kvs)):TyOf K H (.ref a) (.type "dict")
  | dT {a:Addr} {kvs:List (List Key × V)} (e:H a=some (.dT kvs)):TyOf K H (.ref a) (.type "dict")
  | ins {a C dx:Addr} {fs:List (Str × V)} (e:H a=some (.ins C dx fs)) (cl:Cls K C) (ha:PySem.W.findIn K (.ref C) "__class__" = some (some (.builtin "object.__class__")))
      (hn:PySem.W.specialIn K (.builtin "object.__class__") "__get__" = some (some (.builtin "getset_descriptor.__get__"))) (htk:PySem.W.takesIn K (.builtin "object.__class__")=some true)
      (hm:PySem.W.mroIn K C (.type "object")=some true):TyOf K H (.ref a) (.ref C)
theorem V8 {x:V} {u t:Value} (I:Inv X pins σ H s) (rx:RelV x u) (ty:TyOf X.K H x t) (e:PySem.W.kitOne X.K t c=some b) (h:∀ tk,Q (.bool b) { s with toks:=tk }) :
    wpAny (model X.prog X.w) A (call (.builtin "isinstance") [u,c]) Q E s:=by
  cases ty with
  | non=>cases (show u=Value.none from rx);exact PySem.W.kia_one PySem.W.kitx_none I.kIn True.intro e (fun z=>nomatch z) h
  | bl y=>cases (show u=Value.bool y from rx);exact PySem.W.kia_one PySem.W.kitx_bool I.kIn True.intro e (fun z=>nomatch z) h
  | int i=>obtain ⟨t,q⟩:=(show ∃ t,u=Value.int i t from rx);cases q;exact PySem.W.kia_one PySem.W.kitx_int I.kIn True.intro e (fun z=>nomatch z) h
  | str y=>obtain ⟨t,q⟩:=(show ∃ t,u=Value.str y t from rx);cases q;exact PySem.W.kia_one PySem.W.kitx_str I.kIn True.intro e (fun z=>nomatch z) h
  | flt y=>obtain ⟨t,q⟩:=(show ∃ t,u=Value.float y t from rx);cases q;exact PySem.W.kia_one PySem.W.kitx_float I.kIn True.intro e (fun z=>nomatch z) h
  | @lst a xs ea =>
    cases (show u=Value.ref a from rx)
    obtain ⟨_,_,n,_,h1⟩:=(show ObjOk X.prog X.w H s.heap a (.lst xs) from I.hok a _ ea)
    exact PySem.W.kia_one PySem.W.kitx_list I.kIn ⟨_,h1,rfl⟩ e (fun z=>nomatch z) h
  | @frz a ob xs ea =>
    cases (show u=Value.ref a from rx)
    obtain ⟨_,_,_,n,_,h1⟩:=(show ObjOk X.prog X.w H s.heap a (.frz ob (.lst xs)) from I.hok a _ ea)
    exact PySem.W.kia_one PySem.W.kitx_list I.kIn ⟨_,h1,rfl⟩ e (fun z=>nomatch z) h
  | @tup a xs ea =>
    cases (show u=Value.ref a from rx)
    obtain ⟨_,_,_,p⟩:=(show ObjOk X.prog X.w H s.heap a (.tup xs) from I.hok a _ ea)
    obtain ⟨o,h1,h2,_⟩:=p
    exact PySem.W.kia_one PySem.W.kitx_tuple I.kIn ⟨o,h1,h2⟩ e (fun z=>nomatch z) h
  | @dK a kvs ea =>
    cases (show u=Value.ref a from rx)
    obtain ⟨_,_,vs,_,p⟩:=(show ObjOk X.prog X.w H s.heap a (.dK kvs) from I.hok a _ ea)
    obtain ⟨o,es,ep,h1,h2,_⟩:=p
    exact PySem.W.kia_one PySem.W.kitx_dict I.kIn ⟨o,h1,h2.1⟩ e (fun z=>nomatch z) h
  | @dT a kvs ea =>
    cases (show u=Value.ref a from rx)
    obtain ⟨_,_,xs,_,o,es,ep,h1,h2,_⟩:=(show ObjOk X.prog X.w H s.heap a (.dT kvs) from I.hok a _ ea)
    exact PySem.W.kia_one PySem.W.kitx_dict I.kIn ⟨o,h1,h2.1⟩ e (fun z=>nomatch z) h
  | @ins a C dx fs ea cl ha hn htk hm =>
    cases (show u=Value.ref a from rx)
    obtain ⟨mA,O,_⟩:=Nj I.hok ea
    obtain ⟨od,J,_⟩:=O.look
    exact PySem.W.kia_one (PySem.W.kitx_own (cl.get _) cl.hd ha hn htk hm) I.kIn J e (fun z=>nomatch z) h
end
end L2
namespace L2
open PySem PySem.Spec PyProof.Rows
structure Room (k:Nat) (A:Around):Prop where
  hd:A.handled=none
  dp:A.depth + 3 * k + 5 < recursionLimit
  un:A.units + 16 * k + 200 < cLine
theorem Room.mono {j k:Nat} {A:Around} (r:Room k A) (h:j≤k):Room j A:=⟨r.hd,by have:=r.dp;omega,by have:=r.un;omega⟩
theorem Room.deeper {k:Nat} {A:Around} (r:Room (k + 1) A) (env:Env):Room k (A.deeper env) :=
  ⟨r.hd,by have:=r.dp;show A.depth + 1 + 3 * k + 5 < _;omega,by have:=r.un;show A.units + 3 + 16 * k + 200 < _;omega⟩
theorem Room.depth {k:Nat} {A:Around} (r:Room k A):A.depth < recursionLimit:=by have:=r.dp;omega
theorem Room.units {k:Nat} {A:Around} (r:Room k A):A.units + 64 < cLine:=by have:=r.un;omega
def UA:TA:=fun _ H Q=>Q [] H
def Q3 (ta:TE) (tr:TA):TA:=fun σ H Q=>ta σ H fun x H1=>tr σ H1 fun xs H2=>Q (x :: xs) H2
section
variable {X:Cx} {e:Expr} {es:List Expr} {te:TE} {t:TA} {pos:Pos}
theorem Qc:PA X [] UA:=fun _ _ _ _ H Q I h=>Calls.spliced_nil ⟨[],H,I,.nil,h⟩
theorem Qa (ha:PE X e te) (hr:PA X es t) (hs:starEach (e :: es) X.env=(false,eval e X.env) :: starEach es X.env:=by rfl):PA X (e :: es) (Q3 te t):=by
  intro pos pins s σ H Q I h
  rw [hs]
  show wpAny _ _ (spliced ((false,eval e X.env) :: backTo pos (starEach es X.env))) _ _ s
  refine Calls.spliced_cons (thn (ha pins s σ H _ I h) fun u s1 ⟨x,H1,I1,r1,q1⟩=>?_)
  exact thn (hr pos pins s1 σ H1 _ I1 q1) fun us s2 ⟨xs,H2,I2,r2,q2⟩=>⟨x :: xs,H2,I2,.cons r1 r2,q2⟩
def Mm (t:TA):TE:=fun σ H Q=>t σ H fun xs H1=>xs.length≤sizeLine∧∀ p,H1 p=none→Q (.ref p) (upd H1 p (.tup xs))
def Rb (t:TA):TE:=fun σ H Q=>t σ H fun xs H1=>xs.length≤sizeLine∧∀ p,H1 p=none→Q (.ref p) (upd H1 p (.lst xs))
theorem QJ {x1} (h:PA X es t):PE X (.Tuple es x1 pos) (Mm t):=by
  intro pins s σ H Q I hq
  refine wpAny_Tuple_spliced (thn (h pos pins s σ H _ I hq) fun us s1 ⟨xs,H1,I1,r,z,q⟩=>⟨by rw [← r.length];exact z,?_⟩)
  have hf:H1 s1.heap.objs.size=none:=I1.hok.fresh (Nat.le_refl _)
  refine ⟨.ref s1.heap.objs.size,upd H1 s1.heap.objs.size (.tup xs),I1.laid (t':=s1.toks) (fun b u e=>Heap.get?_push_of_some _ e) (Nat.le_refl _) ?_,rfl,q _ hf⟩
  exact ⟨z,us,r,⟨_,Heap.get?_push_size _ rfl,rfl,_,rfl⟩⟩
theorem QE (h:PA X es t):PE X (.List es pos) (Rb t):=by
  intro pins s σ H Q I hq
  refine wpAny_List_spliced (thn (h pos pins s σ H _ I hq) fun us s1 ⟨xs,H1,I1,r,z,q⟩=>⟨by rw [← r.length];exact z,?_⟩)
  have hf:H1 s1.heap.objs.size=none:=I1.hok.fresh (Nat.le_refl _)
  refine ⟨.ref s1.heap.objs.size,upd H1 s1.heap.objs.size (.lst xs),I1.laid (t':=s1.toks) (fun b u e=>Heap.get?_push_of_some _ e) (Nat.le_refl _) ?_,rfl,q _ hf⟩
  exact ⟨z,us,0,r,Heap.get?_push_size _ rfl⟩
end
abbrev Sp:=List V→Hp→VK→XK→Prop
abbrev CXT:=List Env→Hp→Shared→XK→Value→Shared→Prop
structure Env0 (P:Program) (w:World) (K:PySem.W.Frag) (mg:Str→Option Value) (base:Heap) (A:Around) (outer:List Env) (s:Shared) (H:Hp):Prop where
  frames:A.frames=some outer
  mod:Mod K mg base
  bs:∀ b o,base.get? b=some o→s.heap.get? b=some o∧H b=none
  bsz:base.objs.size≤s.heap.objs.size
  funs:s.heap.FunFrames base outer
  frf:∀ b ∈ frs outer,H b=none
  hok:HOk P w H s.heap
  bare:AllBare s.gens
def CE (outer:List Env) (P:Program) (w:World) (H:Hp) (s:Shared) (Q:VK) (u:Value) (s':Shared):Prop :=
  ∃ v H',s'.os=s.os∧AllBare s'.gens∧Un (frs outer) [] H H' s.heap s'.heap∧HOk P w H' s'.heap∧RelV v u∧Q v H'
def CR (CX:CXT) (outer:List Env) (P:Program) (w:World) (H:Hp) (s:Shared) (Q:VK) (E:XK) (r:Result) (s':Shared):Prop :=
  match r with
  | .ok (.ret u)=>CE outer P w H s Q u s'
  | .ok _=>False
  | .error e=>CX outer H s E e s'
structure FnOk (P:Program) (w:World) (K:PySem.W.Frag) (mg:Str→Option Value) (base:Heap) (CX:CXT) (k:Nat) (f:Addr) (fd:FuncData) (ps:List Str) (sp:Sp):Prop where
  len:∀ vs H Q E,sp vs H Q E→vs.length=ps.length
  run:∀ (A:Around) (outer:List Env) (s:Shared) (H:Hp) (args:Args) (us:List Value) (vs:List V) (Q:VK) (E:XK),Room k A→Env0 P w K mg base A outer s H→BindsTo s fd args (ps.zip us)→Vals vs us→sp vs H Q E →
    codeAny (model P w) A (.call (.ref f) args) (CR CX outer P w H s Q E) s
section
variable {X:Cx} {pins:List (Addr × Obj)} {σ:St} {H:Hp} {s s':Shared}
theorem Inv.env0 (I:Inv X pins σ H s):Env0 X.prog X.w X.K X.mg X.base X.A X.stack s H :=
  ⟨I.ok.frames,I.ok.mod,I.bs,Nat.le_trans I.ok.bsz I.sz,I.stack,I.stkFree,I.hok,I.bare⟩
theorem Inv.after {Q:VK} {u:Value} (I:Inv X pins σ H s) (h:CE X.stack X.prog X.w H s Q u s'):EP X pins σ Q u s':=by
  obtain ⟨v,H',os,bare,un,hok,r,q⟩:=h
  obtain ⟨hh,g,d,t,os'⟩:=s'
  obtain rfl:os'=s.os:=os
  exact ⟨v,H',I.call (h':=hh) (g':=g) (d':=d) (t':=t) (ch:=[]) un hok bare (fun b z=>absurd z (by simp)),r,q⟩
end
def X6 (sp:Sp) (dvs:List V) (E:XK) (t:TA):TE:=fun σ H Q=>t σ H fun vs H1=>sp (vs ++ dvs) H1 Q E
def Binds (K:PySem.W.Frag) (fd:FuncData) (ps:List Str) (ds:List Value):Prop :=
  ∀ (s:Shared) (us:List Value),K.In s.heap→(us ++ ds).length=ps.length→BindsTo s fd ⟨us,[]⟩ (ps.zip (us ++ ds))
theorem Binds.all {K:PySem.W.Frag} {fd:FuncData} {ps:List Str} (h:∀ us:List Value,us.length=ps.length→bindArgs fd ⟨us,[]⟩=pure (ps.zip us)):Binds K fd ps []:=fun s us _ hl=>by
  rw [List.append_nil] at hl ⊢
  exact .of_eq (h us hl)
def Xa (CX:CXT) (X:Cx) (E:XK):Prop:=∀ (pins:List (Addr × Obj)) (σ:St) (H:Hp) (s:Shared) (e:Value) (s':Shared),Inv X pins σ H s→CX X.stack H s E e s'→X.xe e s'
section
variable {X:Cx} {CX:CXT} {k:Nat} {f C:Addr} {fd:FuncData} {ps:List Str} {sp:Sp} {dvs:List V} {ds:List Value} {E:XK} {x m:Str} {p pos apos:Pos} {e o:Expr} {es:List Expr} {ta:TE} {t:TA}
theorem N4 {pins:List (Addr × Obj)} {σ:St} {H:Hp} {s:Shared} {Q:VK} {us:List Value} {vs:List V} (F:FnOk X.prog X.w X.K X.mg X.base CX k f fd ps sp) (hr:Room k X.A) (hb:Binds X.K fd ps ds) (hd:Vals dvs ds) (hx:Xa CX X E)
    (I:Inv X pins σ H s) (r:Vals vs us) (h:sp (vs ++ dvs) H Q E):wpAny (model X.prog X.w) X.A (call (.ref f) us) (EP X pins σ Q) X.xe s:=by
  have r2:Vals (vs ++ dvs) (us ++ ds):=r.append hd
  have hl:(us ++ ds).length=ps.length:=by rw [← r2.length];exact F.len _ _ _ _ h
  refine wpAny_call (codeAny_mono (F.run X.A X.stack s H ⟨us,[]⟩ (us ++ ds) (vs ++ dvs) Q E hr I.env0 (hb s us I.kIn hl) r2 h) fun r s' hq=>?_)
  cases r with
  | error e=>exact hx pins σ H s e s' I hq
  | ok fl =>
    cases fl with
    | ret u=>exact I.after hq
    | next=>exact False.elim hq
    | brk=>exact False.elim hq
    | cont=>exact False.elim hq
theorem Nk (F:FnOk X.prog X.w X.K X.mg X.base CX k f fd ps sp) (hr:Room k X.A) (hg:Gl X x) (hm:X.mg x=some (.ref f)) (hk:PySem.W.keepIn X.K (.ref f)=true) (hb:Binds X.K fd ps ds) (hd:Vals dvs ds) (hx:Xa CX X E)
    (ha:PA X (e :: es) t) (hdb:(x == ("__debug__" : Str))=false:=by decide) (he:starEach (e :: es) X.env=(false,eval e X.env) :: starEach es X.env:=by rfl) (hpl:(backTo pos (starEach es X.env)).any (·.1)=false:=by rfl) :
    PE X (.Call (.Name x p) (e :: es) [] pos) (X6 sp dvs E t):=by
  intro pins s σ H Q I h
  refine wpAny_Call_Name_kw (YN I hg hm ?_ hdb)
  refine PySem.W.callWith_K (h₀:=X.base) I.ok.mod.kin hk (thn (ha pos pins s σ H _ I h) fun us s1 ⟨vs,H1,I1,r,q⟩=>⟨I1.kIn,?_⟩) he hpl
  exact N4 F hr hb hd hx I1 r q
end
def PK (X:Cx) (kws:List Keyword) (t:TA):Prop :=
  ∀ (pos:Pos) (pins:List (Addr × Obj)) (s:Shared) (σ:St) (H:Hp) (Q:List V→Hp→Prop),Inv X pins σ H s→t σ H Q→wpAny (model X.prog X.w) X.A (evalAll ((backToKw pos (keywordEach kws X.env)).map (·.2))) (AP X pins σ Q) X.xe s
section
variable {X:Cx} {CX:CXT} {k:Nat} {f C:Addr} {fd:FuncData} {ps ks:List Str} {sp:Sp} {E:XK} {x m:Str} {p pos apos kpos:Pos} {e o:Expr} {es:List Expr} {kws:List Keyword} {te ta:TE} {t tk:TA} {nm:Option Str}
theorem Op:PK X [] UA:=fun _ _ _ _ H Q I h=>wpAny_evalAll_nil ⟨[],H,I,.nil,h⟩
theorem Np (ha:PE X e te) (hr:PK X kws t):PK X (⟨nm,e,kpos⟩ :: kws) (Q3 te t):=by
  intro pos pins s σ H Q I h
  show wpAny _ _ (evalAll ((do let v ← eval e X.env;standAt pos;pure v) :: (backToKw pos (keywordEach kws X.env)).map (·.2))) _ _ s
  refine wpAny_evalAll_cons (wpAny_bind (thn (ha pins s σ H _ I h) fun u s1 ⟨x,H1,I1,r1,q1⟩=>wpAny_bind (wpAny_standAt (wpAny_pure ?_))))
  exact thn (hr pos pins s1 σ H1 _ I1 q1) fun us s2 ⟨xs,H2,I2,r2,q2⟩=>⟨x :: xs,H2,I2,.cons r1 r2,q2⟩
variable {g:List Value→List Value→List Value} {gV:List V→List V→List V}
end
structure FnScope (N P:List Str) (sc:Scope):Prop where
  kind:sc.kind=.function
  co:sc.isCoroutine=false
  gen:sc.isGenerator=false
  nd:N.Nodup
  pre:N.take P.length=P
  par:∀ x ∈ P,sc.names.lookup x=some .local∨sc.names.lookup x=some .cell
  nofree:∀ y ∈ sc.names,y.2≠.free
theorem JP {kindOf:Str→Option NameKind} {x:Str}:∀ {binds:List (Str × Value)} {m:Str→Option Value},(∀ v,(x,v) ∉ binds)→bindL kindOf binds m x=m x
  | [],_,_=>rfl
  | (n,v) :: r,m,h=>by
    unfold bindL
    rw [JP fun w hw=>h w (List.mem_cons_of_mem _ hw)]
    split
    · have:x≠n:=by rintro rfl;exact h v List.mem_cons_self
      simp [this]
    · rfl
theorem Ju {kindOf:Str→Option NameKind} {x:Str}:∀ {binds:List (Str × Value)} {m:Str→Option Value},(∀ v,(x,v) ∉ binds)→bindC kindOf binds m x=m x
  | [],_,_=>rfl
  | (n,v) :: r,m,h=>by
    unfold bindC
    rw [Ju fun w hw=>h w (List.mem_cons_of_mem _ hw)]
    split
    · rfl
    · have:x≠n:=by rintro rfl;exact h v List.mem_cons_self
      simp [this]
theorem Jx {kindOf:Str→Option NameKind} {x:Str} {v:Value}:∀ {P:List Str} {vs:List Value} {i:Nat} {m:Str→Option Value},P.Nodup→P[i]?=some x→vs[i]?=some v→kindOf x=some .local →
    bindL kindOf (P.zip vs) m x=some v
  | [],_,_,_,_,h,_,_=>by simp at h
  | _ :: _,[],_,_,_,_,h,_=>by simp at h
  | p :: P,w :: vs,0,m,nd,h1,h2,hk=>by
    simp at h1 h2;subst h1;subst h2
    show bindL kindOf ((p,w) :: P.zip vs) m p=_
    unfold bindL
    rw [JP fun v hv=>(List.nodup_cons.mp nd).1 (List.of_mem_zip hv).1,if_pos hk]
    simp
  | p :: P,w :: vs,i + 1,m,nd,h1,h2,hk=>by
    show bindL kindOf ((p,w) :: P.zip vs) m x=_
    unfold bindL
    exact Jx (i:=i) (List.nodup_cons.mp nd).2 (by simpa using h1) (by simpa using h2) hk
theorem JM {kindOf:Str→Option NameKind} {x:Str} {v:Value}:∀ {P:List Str} {vs:List Value} {i:Nat} {m:Str→Option Value},P.Nodup→P[i]?=some x→vs[i]?=some v→kindOf x≠some .local →
    bindC kindOf (P.zip vs) m x=some v
  | [],_,_,_,_,h,_,_=>by simp at h
  | _ :: _,[],_,_,_,_,h,_=>by simp at h
  | p :: P,w :: vs,0,m,nd,h1,h2,hk=>by
    simp at h1 h2;subst h1;subst h2
    show bindC kindOf ((p,w) :: P.zip vs) m p=_
    unfold bindC
    rw [Ju fun v hv=>(List.nodup_cons.mp nd).1 (List.of_mem_zip hv).1,if_neg hk]
    simp
  | p :: P,w :: vs,i + 1,m,nd,h1,h2,hk=>by
    show bindC kindOf ((p,w) :: P.zip vs) m x=_
    unfold bindC
    exact JM (i:=i) (List.nodup_cons.mp nd).2 (by simpa using h1) (by simpa using h2) hk
def start (N:List Str) (vs:List V):St:=vs.map some ++ List.replicate (N.length - vs.length) none
def ZZ (CX:CXT) (P:Program) (w:World) (K:PySem.W.Frag) (mg:Str→Option Value) (base:Heap) (N:List Str) (qual:Str) (scope:Scope) (f:Addr) (cd:Value) (A:Around) (outer:List Env) (s:Shared) (H:Hp) (E:XK):Cx where
  prog:=P
  w:=w
  K:=K
  mg:=mg
  base:=base
  A:=A.deeper (envOfC qual scope s.heap.objs.size f cd)
  N:=N
  s₀:=s
  H₀:=H
  env:=envOfC qual scope s.heap.objs.size f cd
  outer:=outer
  stack:=envOfC qual scope s.heap.objs.size f cd :: outer
  ex:=[]
  calm:=true
  fn:=fun _=>true
  pn:=[]
  xe:=fun e s'=>wpAny (model P w) (A.deeper (envOfC qual scope s.heap.objs.size f cd)) (leaving (envOfC qual scope s.heap.objs.size f cd) e) (fun _ s''=>CX outer H s E e s'') (fun e' s''=>CX outer H s E e' s'') s'
theorem XX {sc:Scope} {n:Nat} {x:Str} (h:sc.names.lookup x=some .cell):∃ c,(cellsFrom n sc.names []).lookup x=some c:=by
  have q:=PySem.W.cellsFrom_some sc.names n [] (.inl h)
  exact Option.isSome_iff_exists.mp q
theorem JN {CX:CXT} {P:Program} {w:World} {K:PySem.W.Frag} {mg:Str→Option Value} {base:Heap} {N ps:List Str} {qual:Str} {scope:Scope} {f:Addr} {cd:Value} {A:Around} {outer:List Env} {s s1:Shared} {H:Hp} {E:XK} {us:List Value} {vs:List V}
    (S:FnScope N ps scope) (hd:A.handled=none) (e0:Env0 P w K mg base A outer s H) (hl:vs.length=ps.length) (r:Vals vs us)
    (x:InCallC s s.heap.objs.size (bindL (envOfC qual scope s.heap.objs.size f cd).kindOf (ps.zip us) fun _=>none) (cellsFrom (s.heap.objs.size + 1) scope.names []) (bindC (envOfC qual scope s.heap.objs.size f cd).kindOf (ps.zip us) fun _=>none) s1) :
    Inv (ZZ CX P w K mg base N qual scope f cd A outer s H E) [] (start N vs) H s1:=by
  have hpl:ps.length≤N.length:=by have:=congrArg List.length S.pre;rw [List.length_take] at this;omega
  obtain ⟨h1,tk,rfl,hk⟩:=x.done
  have noA:∀ b:Addr,b ∉ (ZZ CX P w K mg base N qual scope f cd A outer s H E).ex:=fun b z=>absurd (show b ∈ ([]:List Addr) from z) (by simp)
  refine ⟨⟨e0.mod,S.kind,rfl,rfl,Nat.le_refl _,fun y z c h1 h2=>?_,fun y hy=>?_,fun y c _ h=>?_,fun _=>hd,Around.frames_deeper e0.frames,.inr ⟨rfl,rfl⟩,fun b z=>absurd z (noA b),e0.bs,e0.bsz,fun b _ _=>noA b,fun b z=>absurd z (noA b),e0.funs,e0.frf⟩,
    rfl,e0.bare,Un.kept hk,⟨_,x.toInCall.ns,fun i y v h1 h2 h3=>?_⟩,fun y c h=>⟨_,x.cell y c h⟩,e0.hok.fresh (Nat.le_refl _),fun y c h=>?_,fun p hp=>absurd (show p ∈ ([]:List (Addr × Obj)) from hp) (by simp),e0.hok.kept hk,?_⟩
  · exact name_of_addr x.apart (PySem.mem_of_lookup h1) (PySem.mem_of_lookup h2)
  · have hy:scope.names.lookup y=some .cell∨scope.names.lookup y=some .free:=hy
    rcases hy with hy | hy
    · exact XX hy
    · exact absurd rfl (S.nofree _ (PySem.mem_of_lookup hy))
  · exact Nat.le_of_lt (x.above y c (PySem.mem_of_lookup h))
  · have hi:i < vs.length:=by
      unfold start at h2
      by_cases hi:i < vs.length
      · exact hi
      · rw [List.getElem?_append_right (by simpa using hi)] at h2
        rw [List.getElem?_replicate] at h2
        split at h2 <;> cases h2
    have ha:vs[i]?=some v:=by
      unfold start at h2
      rw [List.getElem?_append_left (by simpa using hi),List.getElem?_map] at h2
      cases e:vs[i]? with
      | none=>rw [e] at h2;cases h2
      | some a=>rw [e] at h2;cases h2;rfl
    obtain ⟨u,hu,rv⟩:=r.get ha
    have hp:ps[i]?=some y:=by
      rw [← S.pre,List.getElem?_take_of_lt (by omega)];exact h1
    have ndP:ps.Nodup:=by rw [← S.pre];exact S.nd.sublist (List.take_sublist _ _)
    refine ⟨u,rv,?_⟩
    rcases S.par y (List.mem_of_getElem? hp) with k | k
    · exact .inl ⟨k,Jx ndP hp hu k⟩
    · obtain ⟨c,e⟩:=XX (n:=s.heap.objs.size + 1) k
      refine .inr ⟨.inl k,c,e,?_⟩
      have q:=x.cell y c e
      rw [JM ndP hp hu (by show scope.names.lookup y≠_;rw [k];decide)] at q
      exact q
  · exact e0.hok.fresh (Nat.le_of_lt (x.above y c (PySem.mem_of_lookup h)))
  · unfold start
    show _=N.length
    rw [List.length_append,List.length_map,List.length_replicate]
    omega
theorem Vm {CX:CXT} {P:Program} {w:World} {K:PySem.W.Frag} {mg:Str→Option Value} {base:Heap} {k:Nat} {f:Addr} {name qual:Str} {params:Arguments} {body:List Stmt} {scope:Scope} {dV kV doc pm cdv ct oc:Value} {an od:Option Addr}
    {osl:Array (Option Value)} {N ps:List Str} {sp:Sp} (lk:K.lookup f=some ⟨oc,od,.func (PySem.W.fnOf name qual params body scope dV kV doc pm an cdv ct),osl⟩) (hcd:PySem.W.codeIn K cdv qual=true) (S:FnScope N ps scope)
    (len:∀ vs H Q E,sp vs H Q E→vs.length=ps.length)
    (hbody:∀ (A:Around) (outer:List Env) (s:Shared) (H:Hp) (vs:List V) (Q:VK) (E:XK),Room k (A.deeper (envOfC qual scope s.heap.objs.size f cdv))→sp vs H Q E →
      ∃ t,PSs (ZZ CX P w K mg base N qual scope f cdv A outer s H E) body t∧t { nx:=fun _ H'=>Q .non H',rt:=Q } (start N vs) H) :
    FnOk P w K mg base CX (k + 1) f (PySem.W.fnOf name qual params body scope dV kV doc pm an cdv ct) ps sp:=by
  refine ⟨len,fun A outer s H args us vs Q E hr e0 hb r hsp=>?_⟩
  have hl:=len _ _ _ _ hsp
  have KX:K.In s.heap:=e0.mod.kin.keeps fun b o e=>(e0.bs b o e).1
  have lim:s.heap.NoLimit:=e0.mod.nolimit.keeps fun b o e=>(e0.bs b o e).1
  have hkind:∀ y ∈ ps.zip us,scope.names.lookup y.1=some .local∨(scope.names.lookup y.1=some .cell∧((cellsFrom (s.heap.objs.size + 1) scope.names []).lookup y.1).isSome=true):=fun ⟨n,v⟩ hy=>by
    rcases S.par n (List.of_mem_zip hy).1 with q | q
    · exact .inl q
    · exact .inr ⟨q,PySem.W.cellsFrom_some _ _ _ (.inl q)⟩
  refine codeAny_call_function hr.depth (KX _ _ lk) rfl S.co S.gen rfl (PySem.W.codeRec_of KX hcd) (hb _ _ _ _ ?_)
  refine wpAny_newFunctionEnv_cells S.kind hkind fun env he s1 x=>?_
  subst he
  refine ⟨lim.keeps x.toInCall.keep,codeAny_func ?_⟩
  obtain ⟨t,ht,hq⟩:=hbody A outer s H vs Q E (hr.deeper _) hsp
  have I:Inv (ZZ CX P w K mg base N qual scope f cdv A outer s H E) [] (start N vs) H s1:=JN S hr.hd e0 hl r x
  refine wpAny_mono (ht [] s1 (start N vs) H _ I hq) (fun fl s' hs=>?_) fun e s' hs=>hs
  have fin:∀ {σ':St} {H':Hp} {v:V} {u:Value},Inv (ZZ CX P w K mg base N qual scope f cdv A outer s H E) [] σ' H' s'→RelV v u→Q v H'→CE outer P w H s Q u s' :=
    fun {σ' H' v u} J rv q=>⟨v,H',J.os,J.bare,J.base,J.hok,rv,q⟩
  cases fl with
  | ret u =>
    obtain ⟨v,σ',H',J,rv,q⟩:=hs
    exact fin J rv q
  | next =>
    obtain ⟨σ',H',J,q⟩:=hs
    exact fin (v:=V.non) (u:=Value.none) J rfl q
  | brk =>
    obtain ⟨_,_,_,q⟩:=hs
    exact False.elim q
  | cont =>
    obtain ⟨_,_,_,q⟩:=hs
    exact False.elim q
end L2
namespace L2
open PySem PySem.Spec PyProof.Rows
section
variable {X:Cx} {x:Str} {p pos:Pos} {e:Expr} {es:List Expr} {t:TA} {id T:String} {r:List V→Hp→VK→Prop}
def tCB (r:List V→Hp→VK→Prop) (t:TA):TE:=fun σ H Q=>t σ H fun vs H1=>r vs H1 Q
theorem Qq (hc:Zw X (.builtin id) r) (hg:Gl X x) (hm:X.mg x=none) (hv:bootBuiltins x=some (.builtin id)) (ha:PA X (e :: es) t) (hn:x ≠ "__name__" := by decide) (hdb:(x == ("__debug__" : Str))=false:=by decide)
    (he:starEach (e :: es) X.env=(false,eval e X.env) :: starEach es X.env:=by rfl) (hpl:(backTo pos (starEach es X.env)).any (·.1)=false:=by rfl):PE X (.Call (.Name x p) (e :: es) [] pos) (tCB r t):=by
  intro pins s σ H Q I h
  refine wpAny_Call_Name_kw (ZS I hg hm hv ?_ hn hdb)
  exact PyProof.Rows.callWith_builtin1 (thn (ha pos pins s σ H _ I h) fun us s1 ⟨vs,H1,I1,r1,q1⟩=>hc pins s1 σ H1 vs us Q I1 r1 q1) he hpl
theorem QB (hc:Zw X (.type T) r) (hg:Gl X x) (hm:X.mg x=none) (hv:bootBuiltins x=some (.type T)) (ha:PA X (e :: es) t) (hn:x ≠ "__name__" := by decide) (hdb:(x == ("__debug__" : Str))=false:=by decide)
    (he:starEach (e :: es) X.env=(false,eval e X.env) :: starEach es X.env:=by rfl) (hpl:(backTo pos (starEach es X.env)).any (·.1)=false:=by rfl):PE X (.Call (.Name x p) (e :: es) [] pos) (tCB r t):=by
  intro pins s σ H Q I h
  refine wpAny_Call_Name_kw (ZS I hg hm hv ?_ hn hdb)
  exact PyProof.Rows.callWith_type1 (thn (ha pos pins s σ H _ I h) fun us s1 ⟨vs,H1,I1,r1,q1⟩=>hc pins s1 σ H1 vs us Q I1 r1 q1) he hpl
end
end L2
namespace HT
open PySem PyProof.Rows
def NL:List Int→List Int→Bool
  | [],[]=>false
  | [],_ :: _=>true
  | _ :: _,[]=>false
  | x :: xs,y :: ys=>if x=y then NL xs ys else decide (x < y)
section
open PySem.SeqAt
open PySem.AutoSeq1 (wpAny_loadPart')
open PySem.MeetsSeq PySem.MeetsSeq2 PySem.MeetsSeq3
end
section
variable {prog:Program} {w:World} {A:Around} {E:Value→Shared→Prop} {s:Shared}
theorem cat_tup {t b:Addr} {vs ws:List Value} {Q:Value→Shared→Prop} (ht:IsTup s.heap t vs.toArray) (hb:IsTup s.heap b ws.toArray) (hv:vs≠[])
    (h1:ws=[]→Q (.ref t) s) (h2:ws≠[]→Q (.ref s.heap.objs.size) { s with heap:=s.heap.push { cls:=.type "tuple", data:=.seq (vs ++ ws).toArray } })
    (hsz:vs.length + ws.length≤sizeLine):wpAny (model prog w) A (binaryOp .Add (.ref t) (.ref b)) Q E s:=by
  obtain ⟨⟨cls,dd,data,sl⟩,ho,hc,n,hd⟩:=id ht
  obtain ⟨⟨cls2,dd2,data2,sl2⟩,ho2,hc2,n2,hd2⟩:=id hb
  simp only at hc hd hc2 hd2
  subst hc hd hc2 hd2
  have e:vs.toArray ++ ws.toArray=(vs ++ ws).toArray:=by simp
  by_cases hw:ws=[]
  · exact concat_meets ⟨_,ho,rfl⟩ ⟨_,ho2,rfl⟩ noFill_tuple_add seq_tuple_add PySem.F.slot_tuple_add PySem.F.entry_tuple_add (PySem.F.args_tuple_add_2 _ _)
      (tuple_addW1 t b vs.toArray ws.toArray n n2 dd dd2 sl sl2 (by simpa using hv) (by simp [hw])) ⟨ho,ho2,h1 hw⟩
  · refine concat_meets ⟨_,ho,rfl⟩ ⟨_,ho2,rfl⟩ noFill_tuple_add seq_tuple_add PySem.F.slot_tuple_add PySem.F.entry_tuple_add (PySem.F.args_tuple_add_2 _ _)
      (tuple_addW2 t b vs.toArray ws.toArray n n2 dd dd2 sl sl2 (by simpa using hv) (by simpa using hw) (by rw [List.size_toArray,List.size_toArray];exact hsz)) ⟨ho,ho2,?_⟩
    rw [e]
    exact h2 hw
def sIx (n d:Nat):Option Int→Nat
  | none=>d
  | some v=>if v < 0 then (v + (n:Int)).toNat else min v.toNat n
theorem sIx_none (n d:Nat):sIx n d none=d:=rfl
theorem sIx_nat (n d k:Nat):sIx n d (some (k:Int))=min k n:=by
  show (if (k:Int) < 0 then ((k:Int)+(n:Int)).toNat else min (k:Int).toNat n)=min k n
  rw [if_neg (by omega),Int.toNat_natCast]
end
end HT
namespace L2
open PySem PySem.Spec PyProof.Rows
abbrev TO:=St→Hp→(Option Int→Hp→Prop)→Prop
def PO (X:Cx) (e:Option Expr) (t:TO):Prop :=
  ∀ (pins:List (Addr × Obj)) (s:Shared) (σ:St) (H:Hp) (Q:Option Int→Hp→Prop),Inv X pins σ H s→t σ H Q →
    wpAny (model X.prog X.w) X.A (evalPart e X.env) (fun u s'=>∃ o H',Inv X pins σ H' s'∧IsPart u o∧Q o H') X.xe s
def MI:TO:=fun _ H Q=>Q none H
def Pb (t:TE):TO:=fun σ H Q=>t σ H fun x H1=>∃ i,x=.int i∧Q (some i) H1
section
variable {X:Cx} {e:Expr} {te:TE} {lo hi:Option Expr} {tl th:TO} {pos p2:Pos}
theorem JZ:PO X none MI:=by
  intro pins s σ H Q I h
  rw [evalPart_none]
  exact wpAny_pure ⟨none,H,I,.none,h⟩
theorem YS (h:PE X e te):PO X (some e) (Pb te):=by
  intro pins s σ H Q I hw
  rw [evalPart_some]
  refine thn (h pins s σ H _ I hw) fun u s1 ⟨x,H1,I1,r1,q1⟩=>?_
  obtain ⟨i,rfl,q⟩:=q1
  obtain ⟨t,rfl⟩:=r1
  exact ⟨some i,H1,I1,.int i t,q⟩
def SlR (X:Cx) (r:V→Option Int→Option Int→Hp→VK→Prop):Prop :=
  ∀ (pins:List (Addr × Obj)) (s:Shared) (σ:St) (H:Hp) (x:V) (v vl vu:Value) (lo hi:Option Int) (sl:Addr) (Q:VK),Inv X pins σ H s→RelV x v→s.heap.IsSliceOf sl vl vu .none→IsPart vl lo→IsPart vu hi→r x lo hi H Q →
    ∃ T id,typeLookup (.type T) "__getitem__" = pure (some (.builtin id))∧s.TypeIs v T∧wpAny (model X.prog X.w) X.A (getItem v (.ref sl)) (EP X pins σ Q) X.xe s
def tSl (r:V→Option Int→Option Int→Hp→VK→Prop) (te:TE) (tl th:TO):TE:=fun σ H Q=>te σ H fun x H1=>tl σ H1 fun l H2=>th σ H2 fun u H3=>r x l u H3 Q
theorem YB {r:V→Option Int→Option Int→Hp→VK→Prop} (hr:SlR X r) (he:PE X e te) (hl:PO X lo tl) (hu:PO X hi th):PE X (.Subscript e (.Slice lo hi none p2) pos) (tSl r te tl th):=by
  intro pins s σ H Q I h
  refine Subscript_ (thn (he pins s σ H _ I h) fun v s1 ⟨x,H1,I1,r1,q1⟩=>?_)
  refine wpAny_Slice (thn (hl pins s1 σ H1 _ I1 q1) fun vl s2 ⟨l,H2,I2,pl,q2⟩=>thn (hu pins s2 σ H2 _ I2 q2) fun vu s3 ⟨u,H3,I3,pu,q3⟩=>?_)
  rw [evalPart_none]
  refine wpAny_pure ?_
  have I4:Inv X pins σ H3 { s3 with heap:=s3.heap.push { cls:=.type "slice", data:=.fields #[vl,vu,.none] } }:=I3.kept (t':=s3.toks) fun b ob q=>Heap.get?_push_of_some _ q
  obtain ⟨T,id,hT,ht,hg⟩:=hr pins { s3 with heap:=s3.heap.push { cls:=.type "slice", data:=.fields #[vl,vu,.none] } } σ H3 x v vl vu l u s3.heap.objs.size Q I4 r1 (Heap.IsSliceOf.new ..) pl pu q3
  show wpAny (model X.prog X.w) X.A (subscriptTail e (.Slice lo hi none p2) v (.ref s3.heap.objs.size)) (EP X pins σ Q) X.xe { s3 with heap:=s3.heap.push { cls:=.type "slice", data:=.fields #[vl,vu,.none] } }
  exact tail_any (ops:=[.ref s3.heap.objs.size,v]) ht hT hg (by with_unfolding_all rfl)
def cutV (xs:List V) (lo hi:Option Int):List V:=(xs.drop (HT.sIx xs.length 0 lo)).take (HT.sIx xs.length xs.length hi - HT.sIx xs.length 0 lo)
theorem Wq (xs:List V) (lo hi:Option Int):(cutV xs lo hi).length≤xs.length:=by
  unfold cutV
  rw [List.length_take,List.length_drop]
  omega
def Pi (K:PySem.W.Frag):R2:=fun x y H Q=>∃ a b xs ys,x=.ref a∧y=.ref b∧SqT K H a xs∧SqT K H b ys∧xs≠[]∧xs.length + ys.length≤sizeLine ∧
  (ys=[]→Q (.ref a) H)∧(ys≠[]→∀ p,H p=none→Q (.ref p) (upd H p (.tup (xs ++ ys))))
theorem Vals.nil_iff {xs:List V} {us:List Value} (r:Vals xs us):us=[] ↔ xs=[]:=by
  cases r with
  | nil=>simp
  | cons _ _=>simp
theorem ND:OpR X (binaryOp .Add) (Pi X.K):=by
  intro pins s σ H x y v u Q I rx ry h
  obtain ⟨a,b,xs,ys,rfl,rfl,ha,hb,hx,hz,q1,q2⟩:=h
  cases rx
  cases ry
  obtain ⟨its,r1,p1,_⟩:=I.tuple ha
  obtain ⟨its2,r2,p2,_⟩:=I.tuple hb
  refine HT.cat_tup p1 p2 (fun z=>hx (r1.nil_iff.mp z)) (fun z=>⟨.ref a,H,I,rfl,q1 (r2.nil_iff.mp z)⟩) (fun z=>?_) (by rw [← r1.length,← r2.length];exact hz)
  refine ⟨.ref s.heap.objs.size,_,I.laid (t':=s.toks) (o:=.tup (xs ++ ys)) (fun b ob q=>Heap.get?_push_of_some _ q) (Nat.le_refl _) ?_,rfl,q2 (fun w=>z (r2.nil_iff.mpr w)) _ (I.hok.fresh (Nat.le_refl _))⟩
  exact ⟨by rw [List.length_append];exact hz,_,r1.append r2,IsTup.new _ _⟩
end
end L2
namespace L2
open PySem PySem.Spec PyProof.Rows
def ixN (n:Nat) (i:Int):Option Nat:=if 0≤i then (if i < n then some i.toNat else none) else if -(n:Int)≤i then some (i + n).toNat else none
def atI {α:Type} (xs:List α) (i:Int):Option α:=(ixN xs.length i).bind fun j=>xs[j]?
theorem Vl {n:Nat} {i:Int} {j:Nat} (h:ixN n i=some j):seqIndex? i n=some j∧j < n∧-(n:Int)≤i∧i < n:=by
  unfold ixN at h
  by_cases h0:0≤i
  · rw [if_pos h0] at h
    by_cases h1:i < n
    · rw [if_pos h1] at h
      have e:i.toNat=j:=Option.some.inj h
      exact ⟨by rw [seqIndex_of h0 h1,e],by omega,by omega,h1⟩
    · rw [if_neg h1] at h;cases h
  · rw [if_neg h0] at h
    by_cases h1:-(n:Int)≤i
    · rw [if_pos h1] at h
      have e:(i + n).toNat=j:=Option.some.inj h
      exact ⟨by rw [seqIndex_neg (by omega) h1,e],by omega,h1,by omega⟩
    · rw [if_neg h1] at h;cases h
theorem J4 {α:Type} {xs:List α} {i:Int} {v:α} (h:atI xs i=some v):∃ j,seqIndex? i xs.length=some j∧xs[j]?=some v∧j < xs.length∧-(xs.length:Int)≤i∧i < xs.length:=by
  unfold atI at h
  cases e:ixN xs.length i with
  | none=>rw [e] at h;cases h
  | some j =>
    rw [e] at h
    obtain ⟨h1,h2,h3,h4⟩:=Vl e
    exact ⟨j,h1,h,h2,h3,h4⟩
theorem Qv {α:Type} {xs:List α} {j:Nat} {v:α} (h:xs[j]?=some v):atI xs (j:Int)=some v:=by
  have hj:j < xs.length:=(List.getElem?_eq_some_iff.mp h).1
  have e:ixN xs.length (j:Int)=some j:=by
    unfold ixN
    rw [if_pos (by omega),if_pos (by omega)];simp
  unfold atI;rw [e];exact h
def M0 (b:Expr):Prop:=∀ o i,subscripted b false o i=operate [o,i] (getItem o i)
def IxR (X:Cx) (r:R2):Prop :=
  ∀ (value slice:Expr) (pins:List (Addr × Obj)) (s:Shared) (σ:St) (H:Hp) (x y:V) (v u:Value) (Q:VK),Inv X pins σ H s→RelV x v→RelV y u→r x y H Q →
    subscripted slice false v u=operate [v,u] (getItem v u)→wpAny (model X.prog X.w) X.A (subscriptTail value slice v u) (EP X pins σ Q) X.xe s
def MtR (X:Cx) (id:String) (r:V→List V→Hp→VK→Prop):Prop :=
  ∀ (pins:List (Addr × Obj)) (s:Shared) (σ:St) (H:Hp) (x:V) (xs:List V) (v:Value) (us:List Value) (Q:VK),Inv X pins σ H s→RelV x v→Vals xs us→r x xs H Q →
    wpAny (model X.prog X.w) X.A (call (.builtin id) (v :: us)) (EP X pins σ Q) X.xe s
section
variable {X:Cx} {a b:Expr} {ta tb:TE} {pos:Pos}
theorem Qj {r:R2} (hr:IxR X r) (ha:PE X a ta) (hb:PE X b tb) (hs:M0 b):PE X (.Subscript a b pos) (tOp r ta tb):=by
  intro pins s σ H Q I h
  exact Subscript_ (OM ha hb I h fun v u s2 x y H2 I2 rx ry q=>hr a b pins s2 σ H2 x y v u Q I2 rx ry q (hs _ _))
def Jn (K:PySem.W.Frag):R2:=fun x y H Q=>∃ p xs i v,x=.ref p∧y=.int i∧SqL K H p xs∧atI xs i=some v∧Q v H
def Gr (K:PySem.W.Frag):R2:=fun x y H Q=>∃ p xs i v,x=.ref p∧y=.int i∧SqT K H p xs∧atI xs i=some v∧Q v H
def O9:R2:=fun x y H Q=>∃ z i c,x=.str z∧y=.int i∧z.length≤sizeLine∧atI z.cps.toList i=some c∧Q (.str ⟨#[c]⟩) H
theorem Qk:IxR X (Jn X.K):=by
  intro value slice pins s σ H x y v u Q I rx ry h hs
  obtain ⟨p,xs,i,z,rfl,rfl,hq,he,q⟩:=h
  cases rx
  obtain ⟨t,rfl⟩:=ry
  obtain ⟨its,r,pl,hz⟩:=I.list hq
  obtain ⟨j,h1,h2,h3,h4,h5⟩:=J4 he
  obtain ⟨w,ew,rw'⟩:=r.get h2
  have hl:=r.length
  have hn:=Jc
  have fin:EP X pins σ Q w s:=⟨z,H,I,rw',q⟩
  by_cases h0:0≤i
  · have hj:i.toNat=j:=by
      rw [seqIndex_of h0 h5] at h1
      exact Option.some.inj h1
    exact item_listR pl.isList h0 (by omega) (by rw [hj];simpa using ew) fin hs
  · have hj:(i + (its.toArray.size:Int)).toNat=j:=by
      rw [seqIndex_neg (by omega) h4] at h1
      rw [List.size_toArray,← hl]
      exact Option.some.inj h1
    exact subscriptTail_builtinR (x:=w) pl.isList.typeIs slot_list_getitem.lookup
      (wpAny_getItem_list_neg (Q:=fun r s'=>r=w∧EP X pins σ Q r s') pl.isList (by omega) (by rw [List.size_toArray] <;> omega) (by omega) (by rw [hj];simpa using ew) ⟨rfl,fin⟩) hs
theorem Ql:IxR X (Gr X.K):=by
  intro value slice pins s σ H x y v u Q I rx ry h hs
  obtain ⟨p,xs,i,z,rfl,rfl,hq,he,q⟩:=h
  cases rx
  obtain ⟨t,rfl⟩:=ry
  obtain ⟨its,r,pl,hz⟩:=I.tuple hq
  obtain ⟨j,h1,h2,h3,h4,h5⟩:=J4 he
  obtain ⟨w,ew,rw'⟩:=r.get h2
  have hl:=r.length
  have hn:=Jc
  have fin:EP X pins σ Q w s:=⟨z,H,I,rw',q⟩
  exact subscriptTail_builtinR (x:=w) pl.typeIs slot_tuple_getitem.lookup
    (getItem_tuple (j:=j) (Q:=fun r s'=>r=w∧EP X pins σ Q r s') pl (by omega) (by omega) (by rw [List.size_toArray,← hl];exact h1) (by simpa using ew) ⟨rfl,fin⟩) hs
theorem Me:IxR X O9:=by
  intro value slice pins s σ H x y v u Q I rx ry h hs
  obtain ⟨z,i,c,rfl,rfl,hz,he,q⟩:=h
  obtain ⟨t,rfl⟩:=rx
  obtain ⟨t',rfl⟩:=ry
  obtain ⟨j,h1,h2,h3,h4,h5⟩:=J4 he
  have hl:z.cps.toList.length=z.length:=by simp [Str.length]
  rw [hl] at h1 h4 h5
  have hn:=Jc
  exact tail_any (typeIs_str s z t) slot_str_getitem.lookup (getItem_str (c:=c) (by
    have e1:decide (i < -(2 ^ 63:Int))=false:=decide_eq_false (by omega)
    have e2:decide (i ≥ 2 ^ 63)=false:=decide_eq_false (by omega)
    rw [e1,e2,Bool.or_false]) (by rw [h1];simpa using h2) ⟨.str ⟨#[c]⟩,H,I.tok _,⟨_,rfl⟩,q⟩) hs
theorem WM (its:List Value) (n j:Nat) (u:Value):Obj.mapSeq (·.setIfInBounds j u) { cls:=.type "list", data:=.seq its.toArray n }={ cls:=.type "list", data:=.seq (its.set j u).toArray n }:=by
  simp [Obj.mapSeq]
theorem Inv.lst {pins:List (Addr × Obj)} {σ:St} {H:Hp} {s:Shared} {p:Addr} {xs:List V} (I:Inv X pins σ H s) (h:H p=some (.lst xs)) :
    ∃ (its:List Value) (n:Nat),Vals xs its∧s.heap.get? p=some { cls:=.type "list", data:=.seq its.toArray n }∧xs.length≤sizeLine:=by
  obtain ⟨z,its,n,r,e⟩:=I.hok p _ h
  exact ⟨its,n,r,e,z⟩
theorem Inv.lstUpd {pins:List (Addr × Obj)} {σ:St} {H:Hp} {s:Shared} {p:Addr} {xs ys:List V} {its its':List Value} {n n':Nat} {f:Obj→Obj} (I:Inv X pins σ H s) (h:H p=some (.lst xs))
    (ho:s.heap.get? p=some { cls:=.type "list", data:=.seq its.toArray n }) (hf:f { cls:=.type "list", data:=.seq its.toArray n }={ cls:=.type "list", data:=.seq its'.toArray n' }) (r:Vals ys its') (hz:ys.length≤sizeLine) (t:Nat) :
    Inv X pins σ (upd H p (.lst ys)) { s with heap:=s.heap.update p f,toks:=t }:=by
  have e:(s.heap.update p f).get? p=some { cls:=.type "list", data:=.seq its'.toArray n' }:=by
    rw [Heap.get?_update_self f ho (by rw [hf] <;> rfl),hf]
  refine I.write (x:=p) (e:=p) (by rw [h];trivial) (.inl rfl) (fun b u hb q=>(Heap.get?_update_other _ _ (Ne.symm hb)).trans q) ⟨_,e⟩ ?_
  exact ⟨hz,its',n',r,e⟩
def Pr:V→V→V→Hp→(Hp→Prop)→Prop:=fun o i v H Q=>∃ p xs k j,o=.ref p∧i=.int k∧H p=some (.lst xs)∧ixN xs.length k=some j∧Q (upd H p (.lst (xs.set j v)))
theorem YF:Pt X Pr:=by
  intro pins s σ H o i v ov iv u Q I ro ri rv h
  obtain ⟨p,xs,k,j,rfl,rfl,hp,hj,q⟩:=h
  cases ro
  obtain ⟨t,rfl⟩:=ri
  obtain ⟨its,n,r,ho,hz⟩:=I.lst hp
  obtain ⟨h1,h2,h3,h4⟩:=Vl hj
  have hl:=r.length
  have hn:=Jc
  have I':Inv X pins σ (upd H p (.lst (xs.set j v))) { s with heap:=s.heap.update p (Obj.mapSeq (·.setIfInBounds j u)) } :=
    I.lstUpd hp ho (WM its n j u) (r.set rv j) (by rw [List.length_set];exact hz) s.toks
  by_cases h0:0≤k
  · have hk:k.toNat=j:=by
      rw [seqIndex_of h0 h4] at h1
      exact Option.some.inj h1
    exact PySem.W.ki_setAt ho h0 (by omega) (by rw [List.size_toArray,← hl];exact h4) (by rw [hk];exact ⟨_,I',q⟩)
  · have hk:(k + (its.toArray.size:Int)).toNat=j:=by
      rw [seqIndex_neg (by omega) h3] at h1
      rw [List.size_toArray,← hl]
      exact Option.some.inj h1
    exact PySem.W.ki_setBack ho (by omega) (by rw [List.size_toArray,← hl];exact h3) (by omega) (by rw [hk];exact ⟨_,I',q⟩)
theorem Xv (lo hi:Option Int) (n:Nat):(sliceBounds lo hi none n).1=((HT.sIx n 0 lo:Nat):Int)∧(sliceBounds lo hi none n).2.1=((HT.sIx n n hi:Nat):Int)∧(sliceBounds lo hi none n).2.2=1:=by
  refine ⟨?_,?_,rfl⟩
  · cases lo with
    | none=>simp [sliceBounds,HT.sIx]
    | some i =>
      simp only [sliceBounds,HT.sIx,Option.getD_none,show (1:Int) > 0 by decide,if_true]
      by_cases h:i < 0
      · simp only [h,if_true] <;> omega
      · simp only [h,if_false] <;> omega
  · cases hi with
    | none=>simp [sliceBounds,HT.sIx]
    | some i =>
      simp only [sliceBounds,HT.sIx,Option.getD_none,show (1:Int) > 0 by decide,if_true]
      by_cases h:i < 0
      · simp only [h,if_true] <;> omega
      · simp only [h,if_false] <;> omega
theorem Jm (its:List Value) (lo hi:Option Int):slicePick its.toArray lo hi none=((its.drop (HT.sIx its.length 0 lo)).take (HT.sIx its.length its.length hi - HT.sIx its.length 0 lo)).toArray:=by
  obtain ⟨h1,h2,h3⟩:=Xv lo hi its.toArray.size
  unfold slicePick
  rw [h1,h2,h3]
  simp only [sliceRange_one,pick_run,List.size_toArray] <;> rfl
def PJ (K:PySem.W.Frag):V→Option Int→Option Int→Hp→VK→Prop:=fun x lo hi H Q=>∃ a xs,x=.ref a∧SqL K H a xs∧∀ p,H p=none→Q (.ref p) (upd H p (.lst (cutV xs lo hi)))
theorem Uz:SlR X (PJ X.K):=by
  intro pins s σ H x v vl vu lo hi sl Q I rx hs pl pu h
  obtain ⟨a,xs,rfl,hx,q⟩:=h
  cases rx
  obtain ⟨its,r,ht,hz⟩:=I.list hx
  have hlen:=r.length
  refine ⟨"list", _,slot_list_getitem.lookup,ht.isList.typeIs,?_⟩
  refine wpAny_getItem_list_slice ht.isList hs pl pu .none (by simp) ?_ (by rw [List.size_toArray] <;> omega)
  rw [Jm,← hlen]
  refine ⟨.ref s.heap.objs.size,_,I.laid (t':=s.toks) (o:=.lst (cutV xs lo hi)) (fun b ob q=>Heap.get?_push_of_some _ q) (Nat.le_refl _) ?_,rfl,q _ (I.hok.fresh (Nat.le_refl _))⟩
  exact ⟨Nat.le_trans (Wq xs lo hi) hz,_,0,(r.drop (HT.sIx xs.length 0 lo)).take (HT.sIx xs.length xs.length hi - HT.sIx xs.length 0 lo),Heap.get?_push_size _ rfl⟩
theorem Qo:Zw X (.builtin "len") (fun xs H Q=>∃ p ys,xs=[.ref p]∧(SqL X.K H p ys∨SqT X.K H p ys)∧Q (.int ys.length) H):=by
  intro pins s σ H xs us Q I r h
  obtain ⟨p,ys,rfl,hq,q⟩:=h
  obtain ⟨u,rfl,rx⟩:=XS r
  cases rx
  have hn:=Jc
  rcases hq with hq | hq
  · obtain ⟨its,r',pl,hz⟩:=I.list hq
    have hlen:=r'.length
    exact Calls.call_len_list pl.isList (by simp only [List.size_toArray] <;> omega) ⟨.int ys.length,H,I.tok _,⟨s.toks + 1,by rw [List.size_toArray,hlen]⟩,q⟩
  · obtain ⟨its,r',pl,hz⟩:=I.tuple hq
    have hlen:=r'.length
    exact len_tuple pl (by simp only [List.size_toArray] <;> omega) ⟨.int ys.length,H,I.tok _,⟨s.toks + 1,by rw [List.size_toArray,hlen]⟩,q⟩
theorem YQ:Zw X (.type "list") (fun xs H Q=>∃ p ys,xs=[.ref p]∧(SqL X.K H p ys∨SqT X.K H p ys)∧∀ l,H l=none→Q (.ref l) (upd H l (.lst ys))):=by
  intro pins s σ H xs us Q I r h
  obtain ⟨p,ys,rfl,hq,q⟩:=h
  obtain ⟨u,rfl,rx⟩:=XS r
  cases rx
  have fin:∀ (its:List Value),Vals ys its→ys.length≤sizeLine→∀ (h':Heap) (c':Nat),(∀ b o',s.heap.get? b=some o'→h'.get? b=some o') →
      h'.get? s.heap.objs.size=some { cls:=.type "list", dict:=none,data:=.seq its.toArray c',slots:=#[] }→EP X pins σ Q (.ref s.heap.objs.size) { s with heap:=h' }:=fun its r' hz h' c' kp e =>
    ⟨.ref s.heap.objs.size,_,I.laid (t':=s.toks) kp (Nat.le_refl _) (show ObjOk X.prog X.w _ h' _ (.lst ys) from ⟨hz,its,c',r',e⟩),rfl,q _ (I.hok.fresh (Nat.le_refl _))⟩
  rcases hq with hq | hq
  · obtain ⟨its,r',pl,hz⟩:=I.list hq
    have hlen:=r'.length
    obtain ⟨o,ho,hc,n,hd⟩:=pl.isList
    exact call_list_seq p (.inl rfl) ho hc hd (fun h' c' kp e=>fin its r' hz h' c' kp e) (by simp only [List.size_toArray] <;> omega)
  · obtain ⟨its,r',pl,hz⟩:=I.tuple hq
    have hlen:=r'.length
    obtain ⟨o,ho,hc,n,hd⟩:=pl
    exact call_list_seq p (.inr rfl) ho hc hd (fun h' c' kp e=>fin its r' hz h' c' kp e) (by simp only [List.size_toArray] <;> omega)
theorem Q8:Zw X (.type "tuple") (fun xs H Q=>∃ p ys,xs=[.ref p]∧((SqL X.K H p ys∧∀ l,H l=none→Q (.ref l) (upd H l (.tup ys)))∨(SqT X.K H p ys∧Q (.ref p) H))):=by
  intro pins s σ H xs us Q I r h
  obtain ⟨p,ys,rfl,h⟩:=h
  obtain ⟨u,rfl,rx⟩:=XS r
  cases rx
  rcases h with ⟨hq,q⟩ | ⟨hq,q⟩
  · obtain ⟨its,r',pl,hz⟩:=I.list hq
    have hlen:=r'.length
    refine call_tuple_list pl.isList (fun h' kp=>?_) (by simp only [List.size_toArray] <;> omega)
    have I1:Inv X pins σ H { s with heap:=h' }:=I.kept (t':=s.toks) kp
    have I2:Inv X pins σ (upd H h'.objs.size (.tup ys)) { s with heap:=h'.push { cls:=.type "tuple", data:=.seq its.toArray } } :=
      I1.laid (t':=s.toks) (fun b o e=>Heap.get?_push_of_some _ e) (Nat.le_refl _) (show ObjOk X.prog X.w _ _ _ (.tup ys) from ⟨hz,its,r',IsTup.new _ _⟩)
    exact ⟨.ref h'.objs.size,_,I2,rfl,q _ (I1.hok.fresh (Nat.le_refl _))⟩
  · obtain ⟨its,r',pl,hz⟩:=I.tuple hq
    exact call_tuple_same pl ⟨.ref p,H,I,rfl,q⟩
def tyV (K:PySem.W.Frag) (T:String) (x:V) (H:Hp):Prop:=match x with
  | .str _=>T = "str"
  | .int _=>T = "int"
  | .ref p=>(T = "list" ∧ ∃ xs,SqL K H p xs)∨(T = "tuple" ∧ ∃ o,K.lookup p=some o∧o.cls=.type "tuple" ∧ o.dict=none) ∨
      (T = "dict" ∧ ((∃ kvs,H p=some (.dK kvs))∨∃ kvs,H p=some (.dT kvs)))∨(T = "set" ∧ ∃ S n,H p=some (.set S n))
  | _=>False
theorem Mh {pins:List (Addr × Obj)} {σ:St} {H:Hp} {s:Shared} {T:String} {x:V} {v:Value} (I:Inv X pins σ H s) (r:RelV x v) (ty:tyV X.K T x H) :
    s.TypeIs v T∧∀ a,v=.ref a→∃ ob,s.heap.get? a=some ob∧ob.dict=none:=by
  cases x with
  | str z =>
    obtain ⟨t,rfl⟩:=r
    cases (show T = "str" from ty)
    exact ⟨typeIs_str s z t,fun _ e=>nomatch e⟩
  | int i =>
    obtain ⟨t,rfl⟩:=r
    cases (show T = "int" from ty)
    exact ⟨typeIs_int s i t,fun _ e=>nomatch e⟩
  | ref p =>
    cases r
    rcases ty with ⟨rfl,xs,hq⟩ | ⟨rfl,o,hk,hc,hd⟩ | ⟨rfl,hk⟩ | ⟨rfl,S,n,hk⟩
    · obtain ⟨its,_,pl,_⟩:=I.list hq
      refine ⟨pl.isList.typeIs,fun a e=>?_⟩
      cases e
      obtain ⟨o,n,e,c,hd,_⟩:=pl
      exact ⟨o,e,hd⟩
    · refine ⟨⟨o,I.kIn p o hk,hc⟩,fun a e=>?_⟩
      cases e
      exact ⟨o,I.kIn _ o hk,hd⟩
    · have z:∃ o,s.heap.get? p=some o∧o.ExactDict:=by
        rcases hk with ⟨kvs,hk⟩ | ⟨kvs,hk⟩
        · obtain ⟨_,_,_,_,o,_,_,e,ex,_⟩:=I.hok p _ hk
          exact ⟨o,e,ex⟩
        · obtain ⟨_,_,_,_,o,_,_,e,ex,_⟩:=I.hok p _ hk
          exact ⟨o,e,ex⟩
      obtain ⟨o,e,ex⟩:=z
      refine ⟨⟨o,e,ex.1⟩,fun a e2=>?_⟩
      cases e2
      exact ⟨o,e,ex.2.1⟩
    · obtain ⟨o,_,_,_,e,ex,_⟩:=I.hok p _ hk
      refine ⟨⟨o,e,ex.1⟩,fun a e2=>?_⟩
      cases e2
      exact ⟨o,e,ex.2.1⟩
  | _=>exact False.elim ty
def Rl (K:PySem.W.Frag) (T:String) (r:V→List V→Hp→VK→Prop) (to:TE):TE:=fun σ H Q=>to σ H fun x H1=>tyV K T x H1∧r x [] H1 Q
def tBM (K:PySem.W.Frag) (T:String) (r:V→List V→Hp→VK→Prop) (to:TE) (t:TA):TE:=fun σ H Q=>to σ H fun x H1=>tyV K T x H1∧t σ H1 fun xs H2=>r x xs H2 Q
variable {o e:Expr} {es:List Expr} {to:TE} {t:TA} {name:Str} {apos cpos:Pos} {T id:String} {r:V→List V→Hp→VK→Prop}
theorem GF (pa:PlainAttrs T) (slot:Slot T name id) (hty:typeOf (.builtin id)=pure (.type "method_descriptor")) (hm:MtR X id r) (ho:PE X o to)
    (hbase:attributeBase o name X.env (eval o X.env)=eval o X.env:=by rfl) (hline:(apos.endLine == cpos.line)=true:=by rfl):PE X (.Call (.Attribute o name apos) [] [] cpos) (Rl X.K T r to):=by
  intro pins s σ H Q I h
  refine wpAny_Call_method0_late hbase hline (thn (ho pins s σ H _ I h) fun v s1 ⟨x,H1,I1,r1,ty,q1⟩=>?_)
  obtain ⟨h1,h2⟩:=Mh I1 r1 ty
  exact ⟨T,id,pa,slot,hty,h1,h2,Calls.callWith_builtin rfl (PySem.evalArgs_none (hm pins s1 σ H1 x [] v [] Q I1 r1 .nil q1))⟩
theorem ZB (pa:PlainAttrs T) (slot:Slot T name id) (hty:typeOf (.builtin id)=pure (.type "method_descriptor")) (hm:MtR X id r) (ho:PE X o to) (ha:PA X (e :: es) t)
    (hbase:attributeBase o name X.env (eval o X.env)=eval o X.env:=by rfl)
    (hfew:((backTo cpos (starEach (e :: es) X.env)).all (fun x=>!x.1) && (backToKw cpos (keywordEach [] X.env)).all (fun x=>x.1.isSome)
      && decide ((e :: es).length + ([]:List Keyword).length + (if ([]:List Keyword).isEmpty then 0 else 1) < 30))=true:=by rfl)
    (hline:(apos.endLine == cpos.line)=true:=by rfl) (hs:starEach (e :: es) X.env=(false,eval e X.env) :: starEach es X.env:=by rfl) (hplain:(backTo cpos (starEach es X.env)).any (·.1)=false:=by rfl) :
    PE X (.Call (.Attribute o name apos) (e :: es) [] cpos) (tBM X.K T r to t):=by
  intro pins s σ H Q I h
  refine wpAny_Call_method_late hbase hfew hline rfl (thn (ho pins s σ H _ I h) fun v s1 ⟨x,H1,I1,r1,ty,q1⟩=>?_)
  obtain ⟨h1,h2⟩:=Mh I1 r1 ty
  refine ⟨T,id,pa,slot,hty,h1,h2,?_⟩
  have hA:=ha cpos pins s1 σ H1 _ I1 q1
  rw [hs] at hA ⊢
  refine Calls.callWith_builtin (by show (false || (backTo cpos (starEach es X.env)).any (·.1))=false;rw [hplain] <;> rfl) (Calls.evalArgs_plain ?_)
  exact thn hA fun us s2 ⟨vs,H2,I2,r2,q2⟩=>hm pins s2 σ H2 x vs v us Q I2 r1 r2 q2
/- xs.append(e),list.index on a module's tuple .. are MtR facts of 06m -/
end
end L2
namespace L2
open PySem PySem.Spec PyProof.Rows
def MtM (X:Cx) (id:String) (r:V→List V→Hp→VK→Prop):Prop :=
  ∀ (pins:List (Addr × Obj)) (s:Shared) (σ:St) (H:Hp) (x:V) (xs:List V) (v:Value) (us:List Value) (Q:VK),Inv X pins σ H s→RelV x v→Vals xs us→r x xs H Q →
    wpAny (model X.prog X.w) X.A (call (.builtin id) (v :: us)) (EP X pins σ Q) X.xe s
theorem Vals.one:∀ {x:V} {us:List Value},Vals [x] us→∃ u,us=[u]∧RelV x u
  | _,_,.cons r .nil=>⟨_,rfl,r⟩
theorem Vals.two:∀ {x y:V} {us:List Value},Vals [x,y] us→∃ u v,us=[u,v]∧RelV x u∧RelV y v
  | _,_,_,.cons r (.cons q .nil)=>⟨_,_,rfl,r,q⟩
theorem Vals.eraseIdx:∀ {xs:List V} {us:List Value} (i:Nat),Vals xs us→Vals (xs.eraseIdx i) (us.eraseIdx i)
  | _,_,_,.nil=>.nil
  | _,_,0,.cons _ t=>t
  | _,_,i + 1,.cons r t=>.cons r (Vals.eraseIdx i t)
theorem Jt {α:Type}:∀ (l:List α) (i:Nat),(l.eraseIdx i).length≤l.length
  | [],_=>Nat.le_refl _
  | _ :: _,0=>Nat.le_succ _
  | _ :: r,i + 1=>Nat.succ_le_succ (Jt r i)
section
variable {X:Cx} {pins:List (Addr × Obj)} {σ:St} {H:Hp} {s:Shared} {l b:Addr} {xs ys zs:List V}
theorem Inv.lset {its its':List Value} {n:Nat} {f:Array Value→Array Value} {t':Nat} (I:Inv X pins σ H s) (hH:H l=some (.lst xs))
    (e:s.heap.get? l=some { cls:=.type "list", data:=.seq its.toArray n }) (hf:f its.toArray=its'.toArray) (hv:Vals ys its') (hz:ys.length≤sizeLine) :
    Inv X pins σ (upd H l (.lst ys)) { s with heap:=s.heap.update l (Obj.mapSeq f),toks:=t' }:=by
  have q:=PySem.IsL.update e f
  rw [hf] at q
  refine I.write (x:=l) (e:=l) (by rw [hH];exact trivial) (.inl rfl) (fun b' u hb hu=>(Heap.get?_update_other s.heap (Obj.mapSeq f) (Ne.symm hb)).trans hu) ⟨_,q⟩ ?_
  exact ⟨hz,its',_,hv,q⟩
theorem Inv.lnew {its:List Value} {t':Nat} (I:Inv X pins σ H s) (hv:Vals ys its) (hz:ys.length≤sizeLine) :
    Inv X pins σ (upd H s.heap.objs.size (.lst ys)) { s with heap:=s.heap.push { cls:=.type "list", data:=.seq its.toArray },toks:=t' } :=
  I.laid (fun _ _ q=>Heap.get?_push_of_some _ q) (Nat.le_refl _) ⟨hz,its,0,hv,Heap.get?_push_size _ rfl⟩
theorem Inv.fresh (I:Inv X pins σ H s):H s.heap.objs.size=none:=I.hok.fresh (Nat.le_refl _)
theorem Inv.lstM (I:Inv X pins σ H s) (hH:H l=some (.lst xs)):xs.length≤sizeLine∧∃ (its:List Value) (n:Nat),Vals xs its∧xs.length=its.length∧s.heap.get? l=some { cls:=.type "list", data:=.seq its.toArray n }:=by
  obtain ⟨z,its,n,r,e⟩:=I.hok l _ hH
  exact ⟨z,its,n,r,r.length,e⟩
theorem GQ {n:Nat} (h:n≤sizeLine):Builtin.List.listTooLong n=false:=by
  unfold Builtin.List.listTooLong
  exact decide_eq_false (by omega)
end
section
variable {X:Cx}
def MU:V→List V→Hp→VK→Prop:=fun x vs H Q=>∃ l xs y,x=.ref l∧vs=[y]∧H l=some (.lst xs)∧xs.length < sizeLine∧Q .non (upd H l (.lst (xs ++ [y])))
theorem Q0:MtM X "list.append" MU:=by
  intro pins s σ H x vs v us Q I rx rv h
  obtain ⟨l,xs,y,rfl,rfl,hH,hz,q⟩:=h
  cases rx
  obtain ⟨u,rfl,ru⟩:=rv.one
  obtain ⟨z,its,n,r,hl,e⟩:=I.lstM hH
  refine call_meets F.slot_list_append ⟨_,e,rfl⟩ F.entry_list_append (F.args_list_append_2 _ _) (PySem.list_append l its.toArray n u (by rw [List.size_toArray];omega)) ⟨e,?_⟩
  refine ⟨.non,_,I.lset (its':=its ++ [u]) hH e (by simp) (r.append (.cons ru .nil)) ?_,rfl,q⟩
  rw [List.length_append,List.length_singleton]
  omega
def NK:V→List V→Hp→VK→Prop:=fun x vs H Q=>∃ l b xs zs,x=.ref l∧vs=[.ref b]∧H l=some (.lst xs)∧H b=some (.lst zs)∧xs.length + zs.length≤sizeLine∧Q .non (upd H l (.lst (xs ++ zs)))
theorem JA:MtM X "list.extend" NK:=by
  intro pins s σ H x vs v us Q I rx rv h
  obtain ⟨l,b,xs,zs,rfl,rfl,hH,hB,hz,q⟩:=h
  cases rx
  obtain ⟨u,rfl,ru⟩:=rv.one
  cases ru
  obtain ⟨z,its,n,r,hl,e⟩:=I.lstM hH
  obtain ⟨z2,its2,n2,r2,hl2,e2⟩:=I.lstM hB
  have hsz:its.toArray.size + its2.toArray.size≤sizeLine:=by rw [List.size_toArray,List.size_toArray];omega
  have hlong:¬ (!its.toArray.isEmpty && Builtin.List.listTooLong (its.toArray.size + its2.toArray.size))=true:=by
    rw [GQ hsz,Bool.and_false]
    exact Bool.false_ne_true
  refine call_meets F.slot_list_extend ⟨_,e,rfl⟩ F.entry_list_extend (F.args_list_extend_2 _ _)
    (AutoSeq1.list_extend_list_list_0 l its.toArray n b its2.toArray n2 hlong (by rw [List.size_toArray];omega) (by omega)) ⟨e,e2,?_⟩
  refine ⟨.non,_,I.lset (its':=its ++ its2) hH e (by simp) (r.append r2) ?_,rfl,q⟩
  rw [List.length_append]
  omega
def Oo:V→List V→Hp→VK→Prop:=fun x vs H Q=>∃ l xs i k y,x=.ref l∧vs=[.int i]∧H l=some (.lst xs)∧-(2 ^ 63)≤i∧i < 2 ^ 63∧seqIndex? i xs.length=some k∧xs[k]?=some y∧Q y (upd H l (.lst (xs.eraseIdx k)))
theorem LQ:MtM X "list.pop" Oo:=by
  intro pins s σ H x vs v us Q I rx rv h
  obtain ⟨l,xs,i,k,y,rfl,rfl,hH,h1,h2,hk,hy,q⟩:=h
  cases rx
  obtain ⟨u,rfl,ru⟩:=rv.one
  obtain ⟨t,rfl⟩:=ru
  obtain ⟨z,its,n,r,hl,e⟩:=I.lstM hH
  obtain ⟨w,hw,rw'⟩:=r.get hy
  refine call_meets F.slot_list_pop ⟨_,e,rfl⟩ F.entry_list_pop (F.args_list_pop_2 _ _)
    (MeetsSeq.list_pop_at l its.toArray n i t k w (fitsIndex_both h1 h2) (by rw [List.size_toArray,← hl];exact hk) (by rw [← Array.getElem?_toList];exact hw) (by rw [List.size_toArray];omega)) ⟨e,?_⟩
  refine ⟨y,_,I.lset (its':=its.eraseIdx k) hH e ?_ (r.eraseIdx k) ?_,rw',q⟩
  · show its.toArray.eraseIdxIfInBounds k=(its.eraseIdx k).toArray
    rw [List.eraseIdxIfInBounds_toArray]
  · have:=Jt xs k
    omega
end
section
variable {prog:Program} {w:World} {A:Around} {E:Value→Shared→Prop} {s:Shared}
set_option maxRecDepth 100000 in
end
section
variable {X:Cx}
end
end L2
namespace Att
open PySem PySem.W PySem.Calls PyProof.Rows
theorem Ui {P:Params} {h:Heap}:∀ (ns:List Int) (vs:List Value),WellAll P h vs (ns.map WData.int)→IntsAre vs ns:=by
  intro ns
  induction ns with
  | nil =>
    intro vs w
    rw [List.map_nil] at w
    cases w
    exact .nil
  | cons n ns ih =>
    intro vs w
    rw [List.map_cons] at w
    cases w with
    | cons a b =>
      cases a
      exact .cons _ _ (ih _ b)
theorem V7 {l:OpenLaw} {n:Nat} (hn:l.most=some n) {P:Params} {h:Heap} {args:List WData} {vals:List Value}
    (hpre:l.row.toRowW.claim.pre args=true) (hwl:WellAll P h vals args) :
    ∃ a vs ns,vals=[Value.ref a]∧args=[WData.list (ns.map WData.int)]∧h.get? a=some { cls:=.type "list", data:=.seq vs.toArray }∧IntsAre vs ns∧ns.length≤n:=by
  have hsh:WShape.hasAll [] args [.list .int]=true:=(pre_splitW hpre).1
  have hc:l.pre.holds [] { args:=args }=true:=(pre_splitW hpre).2
  obtain ⟨d,r,rfl,h1,h2⟩:=hasAllW_cons hsh
  obtain rfl:=hasAllW_nil h2
  obtain ⟨xs,rfl,h3⟩:=hasW_list h1
  obtain ⟨ns,rfl⟩:=items_int h3
  have hlen:ns.length≤n:=by
    unfold OpenLaw.pre at hc
    have h4:(WTm.not (.lt (.lit (.int (n:Int))) (.len (.arg 0)))).holds [] { args:=[.list (ns.map .int)] }=true:=by
      have h4:=(holds_andW hc).1
      rw [hn] at h4
      exact h4
    have h5:=condW_of h4 (w_not (w_lt w_lit (w_len_list (w_arg rfl))))
    rw [List.length_map] at h5
    refine Nat.le_of_not_lt fun q=>?_
    have q':(n:Int) < ((ns.length:Nat):Int):=by omega
    first
      | (rw [decide_eq_true q'] at h5;exact absurd h5 (by decide))
      | (simp at h5;omega)
  cases hwl with
  | cons w1 w2 =>
    cases w2
    cases w1 with
    | list ho hall=>exact ⟨_,_,ns,rfl,rfl,ho,Ui ns _ hall,hlen⟩
theorem VZ (l:OpenLaw) (args:List WData):l.row.toRowW.claim.post args (.bool true) args=true :=
  postW_of (r:=l.row.toRowW) (X:=(true == true))
    (show WShape.has [] (.bool true) .bool=true by first | rfl | decide | simp [WShape.has,WShape.arms,WShape.armsAll])
    (show (WTm.eq .res (.lit (.bool true))).value [] { args:=args,res:=some (.bool true),after:=args }=some (.bool (true == true)) from w_eq_bool (w_res rfl) w_lit) rfl
theorem attach_call {l:OpenLaw} {n:Nat} {q:Program} {loose:List Str} {XP:(Str→Option Value)→Heap→Prop} {YP:World→Heap→Prop} {d:DefRec}
    (hn:l.most=some n) (hdf:d.params.defaults=[])
    (call:∀ (w:World) (s₀ s₁:Shared) (mg mb:Str→Option Value) (fa:Addr) (o:Obj) (pm cd doc:Value) (a:Addr) (vs:List Value) (ns:List Int),
      Ground q loose [] XP w s₀ mg mb s₁.heap→YP w s₁.heap →
      s₁.heap.get? fa=some o→o.data=.func (docDef d.name d.params d.body d.scope pm cd doc)→s₁.heap.CodeRec cd d.name→mg d.name=some (.ref fa) →
      s₁.heap.get? a=some { cls:=.type "list", data:=.seq vs.toArray }→IntsAre vs ns→ns.length≤n→s₁.gens=#[] →
      codeAny (model l.prog w) callerA (.call (.ref fa) ⟨[.ref a],[]⟩) (fun r s'=>r=.ok (.ret (.bool true))∧OldK s₁.heap s'.heap∧s'.os=s₁.os∧AllBare s'.gens) s₁) :
    WalkO q loose XP YP l.row.toRowW d [] (fun f vs=>PySem.call f vs):=by
  intro w s₀ s₁ mg mb G Y fa o pm cd doc dV kV ho hd hcd hD hmg hg args vals as hpre hlay hrd hwl hlo
  obtain rfl:dV=.none:=Dflts.none hD hdf
  obtain rfl:kV=.none:=Dflts.noKw hD
  obtain ⟨a,vs,ns,rfl,rfl,hobj,hints,hlen⟩:=V7 hn hpre hwl
  refine enter_call (codeAny_mono (call w s₀ s₁ mg mb fa o pm cd doc a vs ns G Y ho (fd_plain hd) hcd hmg hobj hints hlen hg) fun r s' hq=>?_)
  obtain ⟨rfl,h2,h3,h4⟩:=hq
  exact ⟨.inl ⟨.bool true,.bool true,[],rfl,fun _=>rfl,.bool true,VZ l _,fun _=>⟨List.Pairwise.nil,fun _ hm=>(nomatch hm)⟩⟩,h2,h3,h4⟩
section
variable {prog:Program} {w:World} {A:Around} {E:Value→Shared→Prop} {s:Shared} {K:Frag}
def Rs (h:Heap) (L d:Addr):List (Addr × Obj):=(List.range h.objs.size).filterMap fun a=>if a=L∨a=d then none else (h.get? a).map fun o=>(a,o)
end
end Att
namespace L2
open PySem PySem.Spec PyProof.Rows
theorem Y0:∀ {vs:List Value} {ns:List Int},IntsAre vs ns→Vals (ns.map V.int) vs
  | _,_,.nil=>.nil
  | _,_,.cons n t h=>.cons ⟨t,rfl⟩ (Y0 h)
def OC (H:Hp):Prop:=∀ b,H b=none∨∃ o xs,H b=some (.frz o (.lst xs))
theorem Lr {P:Program} {w:World} {K:PySem.W.Frag} {mg mb:Str→Option Value} {CX:CXT} {k:Nat} {fa a:Addr} {fd:FuncData} {x:Str} {sp:Sp} {s₁:Shared} {vs:List Value} {ns:List Int}
    (KX:K.In s₁.heap) (hns:s₁.heap.Ns mainGlobals mg) (hb:s₁.heap.Ns builtinsNs mb) (hbb:∀ x:Str,x ≠ "__name__" → mb x=bootBuiltins x) (hlim:s₁.heap.NoLimit) (hg:s₁.gens=#[])
    (ha:s₁.heap.get? a=some { cls:=.type "list", data:=.seq vs.toArray }) (hi:IntsAre vs ns) (hl:ns.length≤sizeLine) (hr:Room k callerA)
    (F:∀ base:Heap,K.In base→base.Ns mainGlobals mg→FnOk P w K mg base CX k fa fd [x] sp) (hbind:∀ (s:Shared) (u:Value),BindsTo s fd ⟨[u],[]⟩ [(x,u)])
    (hsp:∀ H:Hp,OC H→SqL K H a (ns.map V.int)→sp [.ref a] H (fun v _=>v=.bl true) fun _ _ _=>False)
    (hCX:∀ H e s',CX [] H s₁ (fun _ _ _=>False) e s'→False) :
    codeAny (model P w) callerA (.call (.ref fa) ⟨[.ref a],[]⟩) (fun r s'=>r=.ok (.ret (.bool true))∧OldK s₁.heap s'.heap∧s'.os=s₁.os∧AllBare s'.gens) s₁:=by
  have rv:=Y0 hi
  have lenV:=hi.length
  have core:∀ H:Hp,OC H→SqL K H a (ns.map V.int)→HOk P w H s₁.heap→(∀ b,H b≠none→b=a)→(H a≠none→K.lookup a=none) →
      codeAny (model P w) callerA (.call (.ref fa) ⟨[.ref a],[]⟩) (fun r s'=>r=.ok (.ret (.bool true))∧OldK s₁.heap s'.heap∧s'.os=s₁.os∧AllBare s'.gens) s₁:=by
    intro H hO hS hok hA hK
    have base_of:∀ {b:Addr} {o:Obj},s₁.heap.get? b=some o→H b=none→(Ys s₁.heap H).get? b=some o:=fun e n=>Wh e n
    have noA:∀ {b:Addr} {o:Obj} {es:Array DictEntry} {ep:Nat},s₁.heap.get? b=some o→o.data=.dict es ep→H b=none:=fun {b o es ep} e d=>by
      cases q:H b with
      | none=>rfl
      | some u =>
        have e':b=a:=hA b (by rw [q];simp)
        subst e'
        rw [ha] at e;cases e
        have d':Data.seq vs.toArray _=Data.dict es ep:=d
        cases d'
    have nsK:∀ {b:Addr} {m:Str→Option Value},s₁.heap.Ns b m→(Ys s₁.heap H).Ns b m:=fun {b m} ⟨o,es,ep,e,d,r⟩=>⟨o,es,ep,base_of e (noA e d),d,r⟩
    have hKb:K.In (Ys s₁.heap H):=fun b o e=>base_of (KX b o e) (by
      cases q:H b with
      | none=>rfl
      | some u =>
        have e':b=a:=hA b (by rw [q];simp)
        subst e'
        rw [hK (by rw [q];simp)] at e;cases e)
    have hM:Mod K mg (Ys s₁.heap H):=⟨hKb,nsK hns,⟨mb,nsK hb,hbb⟩,let ⟨mc,h1,h2⟩:=hlim;⟨mc,nsK h1,h2⟩⟩
    have e0:Env0 P w K mg (Ys s₁.heap H) callerA [] s₁ H:=⟨rfl,hM,fun b o e=>Vd e,Nat.le_of_eq (JS _ _),trivial,fun b hb=>absurd (show b ∈ ([]:List Addr) from hb) (by simp),hok,.of_eq hg⟩
    refine codeAny_mono ((F _ hKb (nsK hns)).run callerA [] s₁ H ⟨[.ref a],[]⟩ [.ref a] [.ref a] _ _ hr e0 (hbind s₁ (.ref a)) (.cons rfl .nil) (hsp H hO hS)) fun r s' h=>?_
    cases r with
    | error e=>exact (hCX H e s' h).elim
    | ok fl =>
      cases fl with
      | next=>exact False.elim h
      | brk=>exact False.elim h
      | cont=>exact False.elim h
      | ret u =>
        obtain ⟨v,H',os,bare,un,hok',r',q⟩:=h
        have q':v=.bl true:=q
        subst q'
        obtain rfl:u=Value.bool true:=r'
        refine ⟨rfl,OldK.of_keep fun b o e=>?_,os,bare⟩
        cases q:H b with
        | none=>exact un.keep b o e q (by intro z;exact absurd (show b ∈ ([]:List Addr) from z) (by simp)) (by simp)
        | some u =>
          rcases hO b with z | ⟨ob,xs,z⟩
          · rw [q] at z;cases z
          · have z2:=un.frzs b ob _ z
            obtain ⟨e1,_⟩:=hok b _ z
            obtain ⟨e2,_⟩:=hok' b _ z2
            rw [e] at e1;cases e1
            exact e2
  cases hk:K.lookup a with
  | some o =>
    have e:=KX a o hk
    rw [ha] at e
    cases e
    refine core (fun _=>none) (fun _=>.inl rfl) (.inr ⟨_,vs.toArray,_,hk,rfl,rfl,rfl,by rw [List.size_toArray,lenV];exact hl,by simpa using rv⟩) (fun b u z=>by have z':(none:Option HO)=some u:=z;cases z') (fun b z=>absurd rfl z) fun z=>absurd rfl z
  | none =>
    refine core (fun b=>if b=a then some (.frz { cls:=.type "list", data:=.seq vs.toArray } (.lst (ns.map V.int))) else none) (fun b=>?_) (.inl (.inr ⟨{ cls:=.type "list", data:=.seq vs.toArray },if_pos rfl⟩)) (fun b u z=>?_) (fun b z=>?_) fun _=>hk
    · by_cases hb:b=a
      · exact .inr ⟨_,_,if_pos hb⟩
      · exact .inl (if_neg hb)
    · by_cases hb:b=a
      · have z':=(if_pos hb).symm.trans z
        cases z'
        subst hb
        exact ⟨ha,by rw [List.length_map];exact hl,vs,_,rv,ha⟩
      · have z':=(if_neg hb).symm.trans z
        cases z'
    · by_cases hb:b=a
      · exact hb
      · exact absurd (if_neg hb) z
end L2
namespace L2
open PySem PySem.Spec PyProof.Rows
abbrev KOf {K:PySem.W.Frag} {h:Heap} (_:K.In h):PySem.W.Frag:=K
theorem walk_of {l:PySem.W.OpenLaw} {n k:Nat} {q:Program} {loose:List Str} {XP:(Str→Option Value)→Heap→Prop} {YP:World→Heap→Prop} {d:DefRec} {K:Params→PySem.W.Frag} {CX:World→CXT} {sp:World→Sp} {x:Str}
    (hn:l.most=some n) (hn2:n≤sizeLine) (hdf:d.params.defaults=[]) (hr:Room k callerA)
    (hY:∀ (w:World) (h:Heap),YP w h→(K w.params).In h)
    (F:∀ (w:World) (mg:Str→Option Value) (fa:Addr) (h:Heap),(K w.params).In h→h.Ns mainGlobals mg→mg d.name=some (.ref fa) →
      ∃ fd:FuncData,(∀ (s:Shared) (u:Value),BindsTo s fd ⟨[u],[]⟩ [(x,u)]) ∧
        ∀ base:Heap,(K w.params).In base→base.Ns mainGlobals mg→FnOk l.prog w (K w.params) mg base (CX w) k fa fd [x] (sp w))
    (hsp:∀ (w:World) (H:Hp) (a:Addr) (ns:List Int),ns.length≤n→OC H→SqL (K w.params) H a (ns.map V.int)→sp w [.ref a] H (fun v _=>v=.bl true) fun _ _ _=>False)
    (hCX:∀ (w:World) (H:Hp) (s:Shared) (e:Value) (s':Shared),CX w [] H s (fun _ _ _=>False) e s'→False) :
    PySem.W.WalkO q loose XP YP l.row.toRowW d [] (fun f vs=>PySem.call f vs):=by
  refine Att.attach_call hn hdf fun w s₀ s₁ mg mb fa o pm cd doc a vs ns G Y ho hd hcd hmg hobj hints hlen hg=>?_
  have KX:=hY w _ Y
  obtain ⟨fd,hb,hF⟩:=F w mg fa _ KX G.T.g hmg
  exact Lr KX G.T.g G.T.b G.T.builtins G.T.nolimit hg hobj hints (Nat.le_trans hlen hn2) hr hF hb (fun H hO hS=>hsp w H a ns hlen hO hS) fun H e s'=>hCX w H s₁ e s'
end L2
/- THE LAST THEOREM (shape;LID,My.* are yours):
   My.Adr: a structure of the addresses that your layer names (classes,functions);My.Txt K t: a structure (Prop) of the equations over K;
   My.txt_mk:{K} {implicit addresses ..} (e1:nsIn K mainGlobals "law" = some (some (.ref f))) (e2:K.lookup f=some ⟨oc,od,.func (fnOf "law" "law" params body scope dV kV doc pm an cdv ct),sl⟩) (e3:codeIn K cdv "law" = true) .. : ∃ t,My.Txt K t
set_option maxRecDepth 100000 in
set_option maxHeartbeats 0 in
theorem PySem.Challenge.cw_LID_holds : PySem.Challenge.rw_LID.Holds := by
  w_on;o_law;k_head;(case hw=>w_witness2)
  k_fill
  refine L2.walk_of (l:=PySem.Challenge.rw_LID) (n:=63) (k:=40) (x:="script") (CX:=fun w=>..) (sp:=fun _=>My.sp_law) rfl (by decide) rfl ⟨rfl,by decide,by decide⟩ (fun w h Y=>PySem.W.kIn_of Y) ?F ?S ?C
  case F =>
    intro w mg fa h KX G hmg
    have T:∃ t,My.Txt (L2.KOf KX) t:=by
      dsimp only [L2.KOf]                          -- K must stand as «<heap const> w.params» for k_is
      refine' My.txt_mk ?e1 ?e2 ?e3 ..
      (case e1=>PySem.W.k_is)                    -- in the order: a name -> its address -> its object -> its parts
      (case e2=>PySem.W.k_is)
      ..
    obtain ⟨t,T⟩:=T
    have e0:=hmg.symm.trans (PySem.W.mg_of KX G T.law)
    cases e0                                       -- fa is the law's own address
    exact ⟨_,fun s u=>.of_eq rfl,fun base kb nb=>My.law_fn T kb nb⟩     -- if «.of_eq rfl» comes too early: refine' ⟨_,?b,fun base kb nb=>My.law_fn T kb nb⟩;exact fun s u=>.of_eq rfl
  case S=>exact fun w H a ns hl hO hS=>..
  case C=>exact ..
(the tactic k_is has no namespace: write k_is) -/
namespace L2
open PySem PySem.Spec PyProof.Rows
def defArgs (s:Stmt):Arguments:=match s with
  | .FunctionDef _ a _ _ _ _ _ _ _ _=>a
  | _=>{ posonlyargs:=[],args:=[],vararg:=none,kwonlyargs:=[],kw_defaults:=[],kwarg:=none,defaults:=[] }
def defBody (s:Stmt):List Stmt:=match s with
  | .FunctionDef _ _ b _ _ _ _ _ _ _=>b
  | _=>[]
def defScope (s:Stmt):Scope:=match s with
  | .FunctionDef _ _ _ _ _ _ sc _ _ _=>sc
  | _=>{ kind:=.function,names:=[],isGenerator:=false,isCoroutine:=false }
abbrev CX0:CXT:=fun _ _ _ _ _ _=>False
abbrev E0:XK:=fun _ _ _=>False
theorem OY {X:Cx}:Xa CX0 X E0:=fun _ _ _ _ _ _ _ h=>h.elim
structure Fun (K:PySem.W.Frag) (x qual:Str) (st:Stmt) (f:Addr) (fd:FuncData):Prop where
  ex:∃ (oc:Value) (od:Option Addr) (kV doc pm:Value) (an:Option Addr) (cdv ct:Value) (osl:Array (Option Value)),
    fd=PySem.W.fnOf x qual (defArgs st) (defBody st) (defScope st) .none kV doc pm an cdv ct∧K.lookup f=some ⟨oc,od,.func fd,osl⟩∧PySem.W.codeIn K cdv qual=true
  kp:PySem.W.keepIn K (.ref f)=true
section
variable {P:Program} {w:World} {K:PySem.W.Frag} {mg:Str→Option Value} {base:Heap}
theorem Fun.ok {x qual:Str} {st:Stmt} {f:Addr} {fd:FuncData} {N ps:List Str} {k:Nat} {sp:Sp} (F:Fun K x qual st f fd) (S:FnScope N ps (defScope st)) (len:∀ vs H Q E,sp vs H Q E→vs.length=ps.length)
    (hbody:∀ (cdv:Value) (A:Around) (outer:List Env) (s:Shared) (H:Hp) (vs:List V) (Q:VK) (E:XK),Room k (A.deeper (envOfC qual (defScope st) s.heap.objs.size f cdv))→sp vs H Q E →
      ∃ t,PSs (ZZ CX0 P w K mg base N qual (defScope st) f cdv A outer s H E).nox (defBody st) t∧t { nx:=fun _ H'=>Q .non H',rt:=Q } (start N vs) H):FnOk P w K mg base CX0 (k + 1) f fd ps sp:=by
  obtain ⟨oc,od,kV,doc,pm,an,cdv,ct,osl,rfl,lk,hcd⟩:=F.ex
  refine Vm lk hcd S len fun A outer s H vs Q E hr hsp=>?_
  obtain ⟨t,h,q⟩:=hbody cdv A outer s H vs Q E hr hsp
  exact ⟨t,h.nox,q⟩
theorem Fun.binds {x qual:Str} {st:Stmt} {f:Addr} {fd:FuncData} {ps:List Str} (F:Fun K x qual st f fd)
    (h:∀ (kV doc pm:Value) (an:Option Addr) (cdv ct:Value) (us:List Value),us.length=ps.length→bindArgs (PySem.W.fnOf x qual (defArgs st) (defBody st) (defScope st) .none kV doc pm an cdv ct) ⟨us,[]⟩=pure (ps.zip us)):Binds K fd ps []:=by
  obtain ⟨oc,od,kV,doc,pm,an,cdv,ct,osl,rfl,lk,hcd⟩:=F.ex
  exact .all (h kV doc pm an cdv ct)
theorem QS {x qual:Str} {st:Stmt} {f:Addr} {oc:Value} {od an:Option Addr} {osl:Array (Option Value)} {kV doc pm cdv ct:Value} (l:K.lookup f=some ⟨oc,od,.func (PySem.W.fnOf x qual (defArgs st) (defBody st) (defScope st) .none kV doc pm an cdv ct),osl⟩)
    (c:PySem.W.codeIn K cdv qual=true) (k:PySem.W.keepIn K (.ref f)=true):Fun K x qual st f (PySem.W.fnOf x qual (defArgs st) (defBody st) (defScope st) .none kV doc pm an cdv ct):=⟨⟨oc,od,kV,doc,pm,an,cdv,ct,osl,rfl,l,c⟩,k⟩
end
theorem ZL {A:Around} {k:Nat} (hr:Room k A):A.units + 1 < cLine:=Nat.lt_of_le_of_lt (Nat.add_le_add_left (by decide:1≤64) _) hr.units
section
variable {X:Cx}
theorem pv (i:Nat) {x:Str} {pos:Pos} (hN:X.N[i]?=some x:=by rfl) (hv:Vis X.env.scope x:=by first | exact Or.inl rfl | exact Or.inr (Or.inl rfl) | exact Or.inr (Or.inr rfl)) (hd:(x == ("__debug__" : Str))=false:=by decide)
    (hcd:(x == ("__classdict__" : Str))=false:=by decide):PE X (.Name x pos) (Zf i):=GB hN hv hd hcd
end
theorem Zu {A B:Prop} (h:B):if false=true then A else B:=by
  rw [if_neg Bool.false_ne_true]
  exact h
theorem Q7 {A B:Prop} (h:A):if true=true then A else B:=by
  rw [if_pos rfl]
  exact h
theorem Y8 {c A B:Prop} [Decidable c] (h1:c→A) (h2:¬ c→B):if c then A else B:=by
  by_cases h:c
  · rw [if_pos h]
    exact h1 h
  · rw [if_neg h]
    exact h2 h
theorem G4 {c A B:Prop} [Decidable c] (hc:c) (h:B):if (!decide c)=true then A else B:=by
  rw [decide_eq_true hc]
  exact Zu h
def Same (H H':Hp):Prop:=∀ b o,H b=some o→H' b=some o
theorem Same.refl (H:Hp):Same H H:=fun _ _ h=>h
theorem Same.trans {H H1 H2:Hp} (a:Same H H1) (b:Same H1 H2):Same H H2:=fun c o h=>b c o (a c o h)
theorem Same.free {H H':Hp} (e:Same H H') {l:Addr} (h:H' l=Option.none):H l=Option.none:=by
  cases q:H l with
  | none=>rfl
  | some o =>
    rw [e l o q] at h
    cases h
theorem Same.seq {K:PySem.W.Frag} {H H':Hp} {a:Addr} {xs:List V} (e:Same H H') (h:SqL K H a xs):SqL K H' a xs:=by
  rcases h with (h | ⟨o,h⟩) | h
  · exact .inl (.inl (e _ _ h))
  · exact .inl (.inr ⟨o,e _ _ h⟩)
  · exact .inr h
end L2
set_option maxHeartbeats 4000000
namespace L2
open PySem PySem.Spec PyProof.Rows
section
variable {X:Cx}
theorem Yc:Zw X (.builtin "isinstance") (fun xs H Q=>∃ x T t b,xs=[x,.ty T]∧TyOf X.K H x t∧PySem.W.kitOne X.K t (.type T)=some b∧Q (.bl b) H):=by
  intro pins s σ H xs us Q I r h
  obtain ⟨x,T,t,b,rfl,ty,e,q⟩:=h
  obtain ⟨u,c,rfl,rx,rc⟩:=GC r
  cases (show c=Value.type T from rc)
  exact V8 I rx ty e fun tk=>⟨.bl b,H,I.tok tk,rfl,q⟩
end
section
variable {X:Cx}
end
mutual
inductive RdV (K:PySem.W.Frag) (H:Hp):V→PyData→Prop where
  | non:RdV K H .non .none
  | bl (b:Bool):RdV K H (.bl b) (.bool b)
  | int (i:Int):RdV K H (.int i) (.int i)
  | str (x:Str):RdV K H (.str x) (.str x)
  | lst {a:Addr} {xs:List V} {ds:List PyData}:SqL K H a xs→RdAll K H xs ds→RdV K H (.ref a) (.list ds)
  | tup {a:Addr} {xs:List V} {ds:List PyData}:SqT K H a xs→RdAll K H xs ds→RdV K H (.ref a) (.tuple ds)
inductive RdAll (K:PySem.W.Frag) (H:Hp):List V→List PyData→Prop where
  | nil:RdAll K H [] []
  | cons {v:V} {vs:List V} {d:PyData} {ds:List PyData}:RdV K H v d→RdAll K H vs ds→RdAll K H (v :: vs) (d :: ds)
end
section
variable {X:Cx} {pins:List (Addr × Obj)} {σ:St} {H:Hp} {s:Shared}
mutual
theorem RdV.reads (I:Inv X pins σ H s):∀ {v:V} {d:PyData} {u:Value},RdV X.K H v d→RelV v u→∃ as,Reads s.heap u d as
  | _,_,u,.non,r=>by cases (show u=Value.none from r);exact ⟨_,.none⟩
  | _,_,u,.bl b,r=>by cases (show u=Value.bool b from r);exact ⟨_,.bool b⟩
  | _,_,u,.int i,r=>by obtain ⟨t,e⟩:=(show ∃ t,u=Value.int i t from r);cases e;exact ⟨_,.int i t⟩
  | _,_,u,.str x,r=>by obtain ⟨t,e⟩:=(show ∃ t,u=Value.str x t from r);cases e;exact ⟨_,.str x t⟩
  | _,_,u,@RdV.lst _ _ a xs ds hq hr,r=>by
    cases (show u=Value.ref a from r)
    obtain ⟨its,rv,⟨o,n,e,c,_,dt⟩,_⟩:=I.list hq
    obtain ⟨as,q⟩:=RdAll.reads I hr rv
    exact ⟨_,.list e c dt (by simpa using q)⟩
  | _,_,u,@RdV.tup _ _ a xs ds hq hr,r=>by
    cases (show u=Value.ref a from r)
    obtain ⟨its,rv,⟨o,e,c,n,dt⟩,_⟩:=I.tuple hq
    obtain ⟨as,q⟩:=RdAll.reads I hr rv
    exact ⟨_,.tuple e c dt (by simpa using q)⟩
theorem RdAll.reads (I:Inv X pins σ H s):∀ {vs:List V} {ds:List PyData} {us:List Value},RdAll X.K H vs ds→Vals vs us→∃ as,ReadsAll s.heap us ds as
  | _,_,_,.nil,r=>by cases r;exact ⟨_,.nil⟩
  | _,_,_,.cons h t,r=>by
    cases r with
    | cons r1 r2 =>
      obtain ⟨as,q⟩:=RdV.reads I h r1
      obtain ⟨bs,q2⟩:=RdAll.reads I t r2
      exact ⟨_,.cons q q2⟩
end
end
section
variable {X:Cx}
def Nr (K:PySem.W.Frag) (A:Around) (neg:Bool):R2:=fun x y H Q=>∃ d e:PyData,RdV K H x d∧RdV K H y e∧d.canLay0=true∧e.canLay0=true∧A.units + min d.depth e.depth < cLine∧Q (.bl (if neg then !PyData.eqv d e else PyData.eqv d e)) H
theorem OS:OpR X (compareOp .Eq) (Nr X.K X.A false):=by
  intro pins s σ H x y v u Q I rx ry h
  obtain ⟨d,e,hd,he,cd,ce,hu,q⟩:=h
  obtain ⟨as,q1⟩:=hd.reads I rx
  obtain ⟨bs,q2⟩:=he.reads I ry
  exact SeqAt.compareEq_reads q1 q2 cd ce hu ⟨.bl _,H,I,rfl,q⟩
theorem Ji:OpR X (compareOp .NotEq) (Nr X.K X.A true):=by
  intro pins s σ H x y v u Q I rx ry h
  obtain ⟨d,e,hd,he,cd,ce,hu,q⟩:=h
  obtain ⟨as,q1⟩:=hd.reads I rx
  obtain ⟨bs,q2⟩:=he.reads I ry
  exact SeqAt.compareNe_reads q1 q2 cd ce hu ⟨.bl _,H,I,rfl,q⟩
end
mutual
theorem UC:∀ d:PyData,d.canLay0=true→PyData.eqv d d=true
  | .none,_=>by simp [PyData.eqv]
  | .bool _,_=>by simp [PyData.eqv]
  | .int _,_=>by simp [PyData.eqv]
  | .str _,_=>by simp [PyData.eqv]
  | .list xs,h=>by
    simp only [PyData.eqv]
    exact Ya xs (by simpa [PyData.canLay0] using h)
  | .tuple xs,h=>by
    simp only [PyData.eqv]
    exact Ya xs (by simpa [PyData.canLay0] using h)
  | .dict _,h=>by simp [PyData.canLay0] at h
theorem Ya:∀ ds:List PyData,PyData.canLayAll0 ds=true→PyData.eqvAll ds ds=true
  | [],_=>by simp [PyData.eqvAll]
  | d :: ds,h=>by
    simp only [PyData.canLayAll0,Bool.and_eq_true] at h
    simp only [PyData.eqvAll,Bool.and_eq_true]
    exact ⟨UC d h.1,Ya ds h.2⟩
end
end L2
namespace L2
open PySem PySem.Spec PyProof.Rows
structure Fn (P:Program) (w:World) (K:PySem.W.Frag) (mg:Str→Option Value) (base:Heap) (k:Nat) (x:Str) (ps:List Str) (sp:Sp):Prop where
  ex:∃ (f:Addr) (fd:FuncData),FnOk P w K mg base CX0 k f fd ps sp∧Binds K fd ps []∧PySem.W.keepIn K (.ref f)=true∧mg x=some (.ref f)
theorem Qr {X:Cx} {k k':Nat} {x:Str} {ps:List Str} {sp:Sp} {p pos:Pos} {e:Expr} {es:List Expr} {t:TA} (F:Fn X.prog X.w X.K X.mg X.base k x ps sp) (hr:Room k' X.A) (ha:PA X (e :: es) t) (hk:k≤k':=by decide) (hg:Gl X x:=by rfl)
    (hdb:(x == ("__debug__" : Str))=false:=by decide) (he:starEach (e :: es) X.env=(false,eval e X.env) :: starEach es X.env:=by rfl) (hpl:(backTo pos (starEach es X.env)).any (·.1)=false:=by rfl) :
    PE X (.Call (.Name x p) (e :: es) [] pos) (X6 sp [] E0 t):=by
  obtain ⟨f,fd,h1,h2,h3,h4⟩:=F.ex
  exact Nk h1 (hr.mono hk) hg h4 h3 h2 .nil OY ha hdb he hpl
theorem Xm {c A B:Prop} [Decidable c] (hc:c) (h:A):if decide c=true then A else B:=by
  rw [decide_eq_true hc]
  exact Q7 h
theorem Wa {c A B:Prop} [Decidable c] (hc:¬ c) (h:B):if decide c=true then A else B:=by
  rw [decide_eq_false hc]
  exact Zu h
theorem Qf {H:Hp} {p:Addr} (h:H p=Option.none) (o:HO):Same H (upd H p o):=fun b u q=>by rw [Qg (Qh q h)];exact q
def S (l:List Nat):Str:=⟨l.toArray⟩
theorem GX (l:List Nat):(S l).cps.toList=l:=by simp [S]
theorem Vo (l:List Nat):(S l).length=l.length:=by simp [S,Str.length]
theorem NM {a b:List Nat} (h:S a=S b):a=b:=by
  have:=congrArg (fun z:Str=>z.cps.toList) h
  simpa [GX] using this
end L2
namespace L2
open PySem PySem.Spec PyProof.Rows
def Ro (t:TS):TS:=fun D σ H=>∃ R:St→Hp→Prop,t { D with nx:=R } σ H∧∀ σ' H',R σ' H'→D.nx σ' H'
theorem Z8 {X:Cx} {st:Stmt} {t:TS} (h:PS X st t):PS X st (Ro t):=by
  intro pins s σ H D I hw
  obtain ⟨R,h1,h2⟩:=hw
  refine thn (h pins s σ H { D with nx:=R } I h1) fun f s1 q=>?_
  cases f with
  | next =>
    obtain ⟨σ',H',I',q⟩:=q
    exact ⟨σ',H',I',h2 _ _ q⟩
  | brk=>exact q
  | cont=>exact q
  | ret v=>exact q
theorem YA:∀ xs:List Str,PyData.depthAll (xs.map PyData.str)=0
  | []=>by simp [PyData.depthAll]
  | x :: r=>by simp [PyData.depthAll,PyData.depth,YA r]
end L2
namespace L2
open PySem PySem.Spec PyProof.Rows
structure DefAt (K:PySem.W.Frag) (x:Str) (st:Stmt):Prop where
  ex:∃ (f:Addr) (oc:Value) (od:Option Addr) (kV doc pm:Value) (an:Option Addr) (cdv ct:Value) (osl:Array (Option Value)),
    PySem.W.nsIn K mainGlobals x=some (some (.ref f))∧K.lookup f=some ⟨oc,od,.func (PySem.W.fnOf x x (defArgs st) (defBody st) (defScope st) .none kV doc pm an cdv ct),osl⟩∧PySem.W.codeIn K cdv x=true∧PySem.W.keepIn K (.ref f)=true
theorem DefAt.mk' {K:PySem.W.Frag} {x:Str} {st:Stmt} {f:Addr} {oc:Value} {od:Option Addr} {kV doc pm:Value} {an:Option Addr} {cdv ct:Value} {osl:Array (Option Value)}
    (a:PySem.W.nsIn K mainGlobals x=some (some (.ref f))) (l:K.lookup f=some ⟨oc,od,.func (PySem.W.fnOf x x (defArgs st) (defBody st) (defScope st) .none kV doc pm an cdv ct),osl⟩) (c:PySem.W.codeIn K cdv x=true) (k:PySem.W.keepIn K (.ref f)=true):DefAt K x st :=
  ⟨f,oc,od,kV,doc,pm,an,cdv,ct,osl,a,l,c,k⟩
theorem DefAt.fn {P:Program} {w:World} {K:PySem.W.Frag} {mg:Str→Option Value} {base h:Heap} {k:Nat} {x:Str} {st:Stmt} {ps:List Str} {sp:Sp} (D:DefAt K x st) (X:K.In h) (G:h.Ns mainGlobals mg)
    (ok:∀ (f:Addr) (fd:FuncData),Fun K x x st f fd→FnOk P w K mg base CX0 k f fd ps sp)
    (hb:∀ (kV doc pm:Value) (an:Option Addr) (cdv ct:Value) (us:List Value),us.length=ps.length→bindArgs (PySem.W.fnOf x x (defArgs st) (defBody st) (defScope st) .none kV doc pm an cdv ct) ⟨us,[]⟩=pure (ps.zip us)):Fn P w K mg base k x ps sp:=by
  obtain ⟨f,oc,od,kV,doc,pm,an,cdv,ct,osl,a,l,c,kp⟩:=D.ex
  have F:=QS (st:=st) l c kp
  exact ⟨f,_,ok f _ F,F.binds hb,kp,PySem.W.mg_of X G a⟩
end L2
namespace L2
open PySem PySem.Spec PyProof.Rows
section
variable {X:Cx}
def O1 (K:PySem.W.Frag):R2:=fun x y H Q=>∃ a b xs ys,x=.ref a∧y=.ref b∧SqT K H a xs∧SqT K H b ys∧xs.length + ys.length≤sizeLine ∧
  ∀ p H',Same H H'→SqT K H' p (xs ++ ys)→Q (.ref p) H'
theorem Ni:OpR X (binaryOp .Add) (O1 X.K):=by
  intro pins s σ H x y v u Q I rx ry h
  obtain ⟨a,b,xs,ys,e1,e2,ha,hb,hz,q⟩:=h
  by_cases hx:xs=[]
  · subst e1;subst e2;subst hx
    cases (show v=Value.ref a from rx)
    cases (show u=Value.ref b from ry)
    obtain ⟨its,r1,p1,_⟩:=I.tuple ha
    obtain ⟨its2,r2,p2,_⟩:=I.tuple hb
    cases r1
    obtain ⟨⟨cls,dd,data,sl⟩,ho,hc,n,hd⟩:=id p1
    obtain ⟨⟨cls2,dd2,data2,sl2⟩,ho2,hc2,n2,hd2⟩:=id p2
    simp only at hc hd hc2 hd2
    subst hc hd hc2 hd2
    exact concat_meets ⟨_,ho,rfl⟩ ⟨_,ho2,rfl⟩ noFill_tuple_add seq_tuple_add PySem.F.slot_tuple_add PySem.F.entry_tuple_add (PySem.F.args_tuple_add_2 _ _)
      (tuple_addW0 a b _ its2.toArray n n2 dd dd2 sl sl2 rfl) ⟨ho,ho2,⟨.ref b,H,I,rfl,q b H (Same.refl H) (by simpa using hb)⟩⟩
  · refine ND pins s σ H x y v u Q I rx ry ⟨a,b,xs,ys,e1,e2,ha,hb,hx,hz,fun hy=>?_,fun hy p hp=>?_⟩
    · subst hy
      exact q a H (Same.refl H) (by simpa using ha)
    · exact q p _ (Qf hp _) (SqT.of Qb)
theorem Same.seqT {K:PySem.W.Frag} {H H':Hp} {a:Addr} {xs:List V} (e:Same H H') (h:SqT K H a xs):SqT K H' a xs:=by
  rcases h with (h | ⟨o,h⟩) | h
  · exact .inl (.inl (e _ _ h))
  · exact .inl (.inr ⟨o,e _ _ h⟩)
  · exact .inr h
end
def Itd (hi:Int) (n:Nat):It:=⟨fun i _=>i < n,fun i H x H'=>H'=H∧x=.int (hi - i),fun i _=>n≤i⟩
theorem Wm {P:Program} {w:World} {K:PySem.W.Frag} {tg:Expr} (it:Addr) (hi:Int) (n:Nat):Turn P w K tg (Itd hi n) [it] it (fun i h=>IsRangeIter h it (hi + (i:Nat) * (-1)) ((n:Int) - (i:Nat)) (-1)) where
  mem:=by simp
  obj:=fun i h st b hb=>by
    have e:b=it:=by simpa using hb
    subst e
    exact ⟨_,st,fun v z=>by
      have z':Data.fields _=Data.cell v:=z
      cases z'⟩
  keep:=fun i h h' st k=>k it (by simp) _ st
  item:=by
    intro X hP hw hK hc i pins s σ H E I hf st hg
    subst hP hw hK
    have hg':i < n:=hg
    obtain ⟨f0,f1,f2,f3,f4,f5⟩:=hf it (by simp)
    refine wpAny_pyNext_range_item st (by omega) fun h' st' sb=>?_
    have I1:Inv X pins σ H { s with heap:=h',toks:=s.toks + 1 }:=I.turned (t':=s.toks + 1) (fun b o hb e=>(sb.2 b hb).trans e) f0 f1 f3 f4 f5
    have st2:IsRangeIter h' it (hi + ((i + 1:Nat):Int) * (-1)) ((n:Int) - ((i + 1:Nat):Int)) (-1):=by
      have e1:hi + ((i + 1:Nat):Int) * (-1)=hi + (i:Nat) * (-1)+(-1):=by omega
      have e2:(n:Int) - ((i + 1:Nat):Int)=(n:Int) - (i:Nat) - 1:=by omega
      rw [e1,e2];exact st'
    exact ⟨_,rfl,Wn (s:={ s with heap:=h',toks:=s.toks + 1 }) (n:="range_iterator") st2 rfl rfl (by decide) ⟨.int (hi - i),H,I1,⟨s.toks,by congr 1;omega⟩,⟨rfl,rfl⟩,st2,fun b hb=>(hf b hb).1⟩⟩
  done:=by
    intro X hP hw hK hc i pins s σ H E I hf st hg
    subst hP hw hK
    have hg':n≤i:=hg
    obtain ⟨f0,f1,f2,f3,f4,f5⟩:=hf it (by simp)
    exact wpAny_pyNext_range_end (I.ok.hd hc) st (by omega) fun h' eb=>⟨rfl,I.turned (t':=s.toks) (fun b o hb e=>eb b o hb e) f0 f1 f3 f4 f5⟩
  self:=fun _ _ _ _ _ st h=>wpAny_pyIter_rangeiter st h
section
variable {X:Cx} {tg:Expr}
theorem UK {hi:Int} {n:Nat} {g:TG} {tb:TS} {D:Ends} {σ:St} {H:Hp} (Pv:Nat→St→Hp→Prop) (h0:Pv 0 σ H)
    (hs:∀ i σ H,i < n→Pv i σ H→g (.int (hi - i)) σ H fun σ2 H2=>tb { D with nx:=Pv (i + 1),ct:=Pv (i + 1),bk:=D.nx } σ2 H2) (hd:∀ σ H,Pv n σ H→D.nx σ H) :
    ∃ W:Nat→Nat→St→Hp→Prop,(∃ m,W 0 m σ H)∧∀ i m σ H,W i m σ H →
      ((Itd hi n).stop i H∧D.nx σ H)∨((Itd hi n).go i H∧∃ N:St→Hp→Prop,(∀ σ' H',N σ' H'→∃ m',m' < m∧W (i + 1) m' σ' H')∧∀ x H',(Itd hi n).yld i H x H'→g x σ H' fun σ2 H2=>tb { D with nx:=N,ct:=N,bk:=D.nx } σ2 H2):=by
  refine ⟨fun i m σ H=>m=n - i∧i≤n∧Pv i σ H,⟨n - 0,rfl,Nat.zero_le _,h0⟩,?_⟩
  rintro i m σ H ⟨rfl,hi',p⟩
  by_cases h:i < n
  · refine .inr ⟨h,Pv (i + 1),fun σ' H' p'=>⟨n - (i + 1),by omega,rfl,h,p'⟩,?_⟩
    rintro x H' ⟨rfl,rfl⟩
    exact hs i σ _ h p
  · have e:i=n:=by omega
    subst e
    exact .inl ⟨Nat.le_refl _,hd σ H p⟩
end
end L2
namespace L2
open PySem PySem.Spec PyProof.Rows
def Q5 (X:Cx) (N':List Str) (scope:Scope) (cl:List (Str × Addr)) (C:Addr) (fp:List Addr) (s₀:Shared) (H₀:Hp):Cx :=
  { X with N:=N',s₀:=s₀,H₀:=H₀,env:=compEnvC scope cl C X.env,outer:=X.stack,ex:=fp,fn:=fun _=>false,pn:=[],xe:=fun _ _=>False }
def PF (X:Cx) (ifs:List Expr) (t:TT):Prop :=
  ∀ (pins:List (Addr × Obj)) (s:Shared) (σ:St) (H:Hp) (Q:Bool→Hp→Prop),Inv X pins σ H s→t σ H Q →
    wpAny (model X.prog X.w) X.A (forIn ifs true fun c r=>if r=true then do let ok ← isTrue c X.env (eval c X.env);pure (ForInStep.yield ok) else pure (ForInStep.yield r)) (TP X pins σ Q) X.xe s
theorem QX {X:Cx}:PF X [] (fun _ H Q=>Q true H):=by
  intro pins s σ H Q I h
  rw [List.forIn_nil]
  exact wpAny_pure ⟨H,I,h⟩
theorem WG {X:Cx} {c:Expr} {t:TT} (hc:PT X c t):PF X [c] t:=by
  intro pins s σ H Q I h
  rw [List.forIn_cons]
  refine wpAny_bind ?_
  rw [if_pos rfl]
  refine wpAny_bind (thn (hc pins s σ H Q I h) fun ok s1 q=>wpAny_pure ?_)
  dsimp only
  rw [List.forIn_nil]
  exact wpAny_pure q
structure OwnAt (X:Cx) (pins:List (Addr × Obj)) (H:Hp) (s:Shared) (C:Addr):Prop where
  ns:∃ m,s.heap.Ns C m
  free:H C=none
  loc:C≠X.env.locals
  above:X.s₀.heap.objs.size≤C
  cells:∀ x c,X.env.cells.lookup x=some c→c≠C
  pins:∀ p ∈ X.pn ++ pins,p.1≠C
theorem OwnAt.go {X:Cx} {pins:List (Addr × Obj)} {σ:St} {H:Hp} {s:Shared} {C:Addr} {h':Heap} (I:Inv X pins σ H s) (o:OwnAt X pins H s C) (hb:Heap.SameBut C s.heap h'):Inv X pins σ H { s with heap:=h' } :=
  I.turned (t':=s.toks) (fun b u hb' e=>(hb.2 b hb').trans e) o.free o.loc (.inr o.above) o.cells o.pins
def XL (n:Nat) (Pv:Nat→List V→Hp→Prop):Nat→Nat→Hp→Prop:=fun i m H=>m=n - i∧i≤n∧∃ ys,Pv i ys H
def LL (n:Nat) (Pv:Nat→List V→Hp→Prop) (acc:Addr) (i m:Nat):VK:=fun y H5=>∃ ys,H5 acc=some (.lst ys)∧ys.length < sizeLine∧∃ m',m' < m∧XL n Pv (i + 1) m' (upd H5 acc (.lst (ys ++ [y])))
theorem Qw {n:Nat} {Pv:Nat→List V→Hp→Prop} {acc:Addr} {i:Nat} {y:V} {H5:Hp} {ys:List V} (hi:i < n) (hacc:H5 acc=some (.lst ys)) (hl:ys.length < 5000) (hP:Pv (i + 1) (ys ++ [y]) (upd H5 acc (.lst (ys ++ [y])))):LL n Pv acc i (n - i) y H5 :=
  ⟨ys,hacc,Nat.lt_trans hl (by decide),n - (i + 1),by omega,rfl,hi,_,hP⟩
theorem Yj {n:Nat} {Pv:Nat→List V→Hp→Prop} {i:Nat} {H:Hp} {ys:List V} (hi:i < n) (hP:Pv (i + 1) ys H):∃ m',m' < n - i∧XL n Pv (i + 1) m' H:=⟨n - (i + 1),by omega,rfl,hi,ys,hP⟩
end L2
namespace L2
open PySem PySem.Spec PyProof.Rows
end L2
namespace L2
open PySem PySem.Spec PyProof.Rows
section
variable {X:Cx}
theorem YJ:Zw X (.builtin "isinstance") (fun xs H Q=>∃ a ys T b,xs=[.ref a,.ty T]∧SqT X.K H a ys∧PySem.W.kitOne X.K (.type "tuple") (.type T)=some b∧Q (.bl b) H):=by
  intro pins s σ H xs us Q I r h
  obtain ⟨a,ys,T,b,rfl,ht,e,q⟩:=h
  obtain ⟨u,c,rfl,rx,rc⟩:=GC r
  cases (show c=Value.type T from rc)
  cases (show u=Value.ref a from rx)
  obtain ⟨its,r1,p,_⟩:=I.tuple ht
  obtain ⟨o,h1,h2,_⟩:=p
  exact PySem.W.kia_one PySem.W.kitx_tuple I.kIn ⟨o,h1,h2⟩ e (fun z=>nomatch z) fun tk=>⟨.bl b,H,I.tok tk,rfl,q⟩
def Pc (t:TT):TT:=fun σ H Q=>∃ R:Bool→Hp→Prop,t σ H R∧∀ b H',R b H'→Q b H'
theorem G3 {e:Expr} {t:TT} (h:PT X e t):PT X e (Pc t):=by
  intro pins s σ H Q I hw
  obtain ⟨R,h1,h2⟩:=hw
  refine thn (h pins s σ H R I h1) fun b s1 q=>?_
  obtain ⟨H',I',q⟩:=q
  exact ⟨H',I',h2 _ _ q⟩
end
theorem Xk {K:PySem.W.Frag} {H:Hp}:∀ p:List Int,RdAll K H (p.map V.int) (p.map PyData.int)
  | []=>.nil
  | i :: r=>.cons (.int i) (Xk r)
theorem UT:∀ p:List Int,PyData.canLayAll0 (p.map PyData.int)=true
  | []=>by simp [PyData.canLayAll0]
  | i :: r=>by simp only [List.map_cons,PyData.canLayAll0,PyData.canLay0,UT r,Bool.and_self]
end L2
namespace L2
open PySem PySem.Spec PyProof.Rows
section
variable {X:Cx} {pins:List (Addr × Obj)} {σ:St} {H:Hp} {s:Shared} {h':Heap}
theorem Inv.turnedL {ch:List Addr} {t':Nat} (I:Inv X pins σ H s) (k:∀ b o,b ∉ ch→s.heap.get? b=some o→h'.get? b=some o) (hf:∀ b ∈ ch,Yx X pins H b):Inv X pins σ H { s with heap:=h',toks:=t' }:=by
  have nch:∀ b u,H b=some u→b ∉ ch:=fun b u e z=>by rw [(hf b z).1] at e;cases e
  refine I.step (g':=s.gens) (d':=s.drawn) (ch:=ch) (fun b hb=>?_) (fun b o _ _ hc e _=>k b o hc e) (fun b o _ _ hc e _=>⟨o.slots,k b o hc e⟩) (fun _ _ _ _ n=>n)
    (fun b o hc e=>⟨o,k b o hc e⟩) (fun _ _ e=>e) (fun _ _ _ e=>e) (fun b ps e=>⟨#[],by rw [e];simp⟩) (fun m hm=>?_) (fun b u e=>?_) I.bare
  · obtain ⟨f0,f1,f2,f3,f4,f5⟩:=hf b hb
    exact ⟨f3,f1,f4,f5⟩
  · obtain ⟨o,es,ep,ho,r⟩:=hm
    exact ⟨o,es,ep,k _ o (fun z=>(hf _ z).2.1 rfl) ho,r⟩
  · refine (I.hok b u e).stay (fun c v hc q=>k c v ?_ q) (fun _ q=>q) fun _ _ q=>q
    rcases hc with z | z
    · rw [z];exact nch b u e
    · exact nch c _ z
theorem Inv.turnedNew {ch:List Addr} {t':Nat} {a:Addr} {o:HO} (I:Inv X pins σ H s) (k:∀ b o,b ∉ ch→s.heap.get? b=some o→h'.get? b=some o) (hf:∀ b ∈ ch,Yx X pins H b)
    (hp:s.heap.objs.size≤a) (new:ObjOk X.prog X.w (upd H a o) h' a o):Inv X pins σ (upd H a o) { s with heap:=h',toks:=t' }:=by
  have hn:H a=none:=I.hok.fresh hp
  have nch:∀ b u,H b=some u→b ∉ ch:=fun b u e z=>by rw [(hf b z).1] at e;cases e
  have lt:∀ b u,s.heap.get? b=some u→b≠a:=fun b u e=>Nat.ne_of_lt (Nat.lt_of_lt_of_le (Heap.lt_size e) hp)
  refine I.step (g':=s.gens) (d':=s.drawn) (ch:=ch) (fun b hb=>?_) (fun b o _ _ hc e _=>k b o hc e) (fun b o _ _ hc e _=>⟨o.slots,k b o hc e⟩) (fun b u _ e n=>by rw [Qg (lt b u e)];exact n)
    (fun b o hc e=>⟨o,k b o hc e⟩) (fun b xs e=>by rw [Qg (Qh e hn)];exact e) (fun b u xs e=>by rw [Qg (Qh e hn)];exact e) (fun b ps e=>⟨#[],by rw [Qg (Qh e hn),e];simp⟩) (fun m hm=>?_) (fun b u e=>?_) I.bare
  · obtain ⟨f0,f1,f2,f3,f4,f5⟩:=hf b hb
    exact ⟨f3,f1,f4,f5⟩
  · obtain ⟨o,es,ep,ho,r⟩:=hm
    exact ⟨o,es,ep,k _ o (fun z=>(hf _ z).2.1 rfl) ho,r⟩
  · by_cases hb:b=a
    · subst hb
      rw [Qb] at e;cases e
      exact new
    · rw [Qg hb] at e
      refine (I.hok b u e).stay (fun c v hc q=>k c v ?_ q) (fun c q=>by rw [Qg (Qh q hn)];exact q) fun c xs q=>by rw [Qg (Qh q hn)];exact q
      rcases hc with z | z
      · rw [z];exact nch b u e
      · exact nch c _ z
end
def Itz (K:PySem.W.Frag) (a b:Addr) (xs ys:List V):It :=
  ⟨fun i H=>SqL K H a xs∧SqL K H b ys∧i < xs.length∧i < ys.length,
   fun i H x H'=>∃ p u v,H p=none∧x=.ref p∧H'=upd H p (.tup [u,v])∧xs[i]?=some u∧ys[i]?=some v,
   fun i H=>SqL K H a xs∧SqL K H b ys∧(xs.length≤i∨ys.length≤i)⟩
theorem Lm {P:Program} {w:World} {K:PySem.W.Frag} {elts:List Expr} {k1:Nat} {pos:Pos} (a b z:Addr) (xs ys:List V) (TI TO i1 i2:Addr) (Ap:ZipApart z TI TO i1 i2 a b) :
    Turn P w K (.Tuple elts k1 pos) (Itz K a b xs ys) [z,TI,TO,i1,i2] z (fun i h=>IsZip h z TI TO .none∧IsPair h TI (.ref i1) (.ref i2)∧(∃ u v,IsPair h TO u v)∧h.IsListIter i1 a i∧h.IsListIter i2 b i) where
  mem:=by simp
  obj:=fun i h st c hc=>by
    obtain ⟨hz,hTI,⟨u,v,hTO⟩,h1,h2⟩:=st
    simp only [List.mem_cons,List.mem_nil_iff,or_false] at hc
    rcases hc with rfl | rfl | rfl | rfl | rfl
    · exact ⟨_,hz,fun v z=>by have z':Data.fields _=Data.cell v:=z;cases z'⟩
    · exact ⟨_,hTI,fun v z=>by have z':Data.seq _ _=Data.cell v:=z;cases z'⟩
    · exact ⟨_,hTO,fun v z=>by have z':Data.seq _ _=Data.cell v:=z;cases z'⟩
    · obtain ⟨o,e,c,d⟩:=h1;exact ⟨o,e,fun v z=>by rw [d] at z;cases z⟩
    · obtain ⟨o,e,c,d⟩:=h2;exact ⟨o,e,fun v z=>by rw [d] at z;cases z⟩
  keep:=fun i h h' st k=>by
    obtain ⟨hz,hTI,⟨u,v,hTO⟩,h1,h2⟩:=st
    exact ⟨k z (by simp) _ hz,k TI (by simp) _ hTI,⟨u,v,k TO (by simp) _ hTO⟩,h1.at fun o e=>k i1 (by simp) o e,h2.at fun o e=>k i2 (by simp) o e⟩
  item:=by
    intro X hP hw hK hc i pins s σ H E I hf st hg
    subst hP hw hK
    obtain ⟨hz,hTI,⟨u0,v0,hTO⟩,h1,h2⟩:=st
    obtain ⟨qa,qb,lx,ly⟩:=hg
    obtain ⟨its,rv,p,_⟩:=I.list qa
    obtain ⟨its2,rv2,p2,_⟩:=I.list qb
    have ex:xs[i]?=some xs[i]:=List.getElem?_eq_getElem lx
    have ey:ys[i]?=some ys[i]:=List.getElem?_eq_getElem ly
    obtain ⟨u,hu,ru⟩:=rv.get ex
    obtain ⟨v,hv,rv'⟩:=rv2.get ey
    refine wpAny_pyNext_zip_item Ap hz hTI hTO h1 h2 p.isList p2.isList (x:=u) (y:=v) (by simpa using hu) (by simpa using hv) fun h' a1 a2 a3 a4 a5 a6 hk=>?_
    refine ⟨.ref s.heap.objs.size,rfl,wpAny_letOwnedTupleGo_zip (s:={ s with heap:=h' }) a1 fun h'' hz' hs'=>?_⟩
    have lt:∀ {c o},s.heap.get? c=some o→c≠s.heap.objs.size:=fun e=>Nat.ne_of_lt (Heap.lt_size e)
    have e5:IsPair h'' s.heap.objs.size u v:=(hs'.2 _ (Ne.symm (lt hz))).trans a5
    have hch:∀ c ∈ [z,TO,i1,i2],Yx X pins H c:=fun c hc=>hf c (by
      simp only [List.mem_cons,List.mem_nil_iff,or_false] at hc ⊢
      rcases hc with rfl | rfl | rfl | rfl <;> simp)
    have I2:Inv X pins σ (upd H s.heap.objs.size (.tup [xs[i],ys[i]])) { s with heap:=h'',toks:=s.toks }:=by
      refine I.turnedNew (ch:=[z,TO,i1,i2]) (fun c o hc e=>?_) hch (Nat.le_refl _) ⟨by show 2≤sizeLine;decide,[u,v],.cons ru (.cons rv' .nil),⟨_,e5,rfl,_,rfl⟩⟩
      simp only [List.mem_cons,List.mem_nil_iff,or_false,not_or] at hc
      exact (hs'.2 c hc.1).trans (hk c o hc.1 hc.2.1 hc.2.2.1 hc.2.2.2 e)
    have hfr:∀ c ∈ [z,TI,TO,i1,i2],upd H s.heap.objs.size (.tup [xs[i],ys[i]]) c=none:=fun c hc=>by
      have hc2:=hf c hc
      have:c≠s.heap.objs.size:=by
        simp only [List.mem_cons,List.mem_nil_iff,or_false] at hc
        rcases hc with rfl | rfl | rfl | rfl | rfl
        · exact lt hz
        · exact lt hTI
        · exact lt hTO
        · obtain ⟨o,e,_⟩:=h1;exact lt e
        · obtain ⟨o,e,_⟩:=h2;exact lt e
      rw [Qg this];exact hc2.1
    exact ⟨.ref s.heap.objs.size,_,I2,rfl,⟨s.heap.objs.size,_,_,I.fresh,rfl,rfl,ex,ey⟩,⟨hz',hs'.extBut _ _ Ap.TIz (hk _ _ Ap.TIz Ap.TITO Ap.TIi1 Ap.TIi2 hTI),⟨_,_,hs'.extBut _ _ Ap.TOz a2⟩,a3.extBut hs'.extBut Ap.i1z,a4.extBut hs'.extBut Ap.i2z⟩,hfr⟩
  done:=by
    intro X hP hw hK hc i pins s σ H E I hf st hg
    subst hP hw hK
    obtain ⟨hz,hTI,⟨u0,v0,hTO⟩,h1,h2⟩:=st
    obtain ⟨qa,qb,hl⟩:=hg
    obtain ⟨its,rv,p,_⟩:=I.list qa
    obtain ⟨its2,rv2,p2,_⟩:=I.list qb
    have l1:=rv.length
    have l2:=rv2.length
    have hch:∀ c ∈ [z,TO,i1,i2],Yx X pins H c:=fun c hc=>hf c (by
      simp only [List.mem_cons,List.mem_nil_iff,or_false] at hc ⊢
      rcases hc with rfl | rfl | rfl | rfl <;> simp)
    refine wpAny_pyNext_zip_end (I.ok.hd hc) Ap hz hTI hTO h1 h2 p.isList p2.isList ?_ fun h' hk=>⟨rfl,I.turnedL (t':=s.toks) (ch:=[z,TO,i1,i2]) (fun c o hc e=>?_) hch⟩
    · rcases hl with q | q
      · exact .inl (by simp;omega)
      · exact .inr (by simp;omega)
    · simp only [List.mem_cons,List.mem_nil_iff,or_false,not_or] at hc
      exact hk c o hc.1 hc.2.1 hc.2.2.1 hc.2.2.2 e
  self:=fun _ _ _ _ _ st h=>wpAny_pyIter_zip st.1 h
theorem nne {x y:Nat} (h:x < y∨y < x):x≠y:=by omega
section
variable {X:Cx} {elts:List Expr} {k1:Nat} {tpos:Pos}
def P4 (K:PySem.W.Frag) (ta:TA):TI:=fun σ H R=>ta σ H fun vs H1=>∃ a b xs ys,vs=[.ref a,.ref b]∧SqL K H1 a xs∧SqL K H1 b ys∧R (Itz K a b xs ys) H1
theorem LU {e1 e2:Expr} {ta:TA} {p pos:Pos} (hg:Gl X "zip") (hm:X.mg "zip" = none) (ha:PA X [e1,e2] ta) (hs:starEach [e1,e2] X.env=[(false,eval e1 X.env),(false,eval e2 X.env)]:=by rfl) (hs2:starEach [e2] X.env=[(false,eval e2 X.env)]:=by rfl) :
    PI X (.Tuple elts k1 tpos) (.Call (.Name "zip" p) [e1,e2] [] pos) (P4 X.K ta):=by
  intro pins s σ H R I h
  refine Call_ (ZS I hg hm PyProof.Rows.boot_zip (PyProof.Rows.callWith_type1 (thn (ha pos pins s σ H _ I h) fun us s1 ⟨vs,H1,I1,r1,q1⟩=>?_) (by rw [hs,hs2]) (by rw [hs2];rfl)))
  obtain ⟨a,b,xs,ys,e,qa,qb,q⟩:=q1
  subst e
  obtain ⟨u1,u2,e3,r3,r4⟩:=r1.two
  subst e3
  cases (show u1=Value.ref a from r3)
  cases (show u2=Value.ref b from r4)
  obtain ⟨its,rv,pl,_⟩:=I1.list qa
  obtain ⟨its2,rv2,pl2,_⟩:=I1.list qb
  have la:@LT.lt Nat _ a s1.heap.objs.size:=by obtain ⟨o,n,e,_⟩:=pl;exact Heap.lt_size e
  have lb:@LT.lt Nat _ b s1.heap.objs.size:=by obtain ⟨o,n,e,_⟩:=pl2;exact Heap.lt_size e
  refine call_zip_2 pl.isList pl2.isList fun h' hz hTI hTO h1 h2 hsz hk=>?_
  refine wpAny_pyIter_zip hz ?_
  have I2:Inv X pins σ H1 { s1 with heap:=h' }:=I1.kept (t':=s1.toks) hk
  refine ⟨s1.heap.objs.size + 4,[s1.heap.objs.size + 4,s1.heap.objs.size + 2,s1.heap.objs.size + 3,s1.heap.objs.size,s1.heap.objs.size + 1],_,_,H1,rfl,I2,
    Lm a b (s1.heap.objs.size + 4) xs ys (s1.heap.objs.size + 2) (s1.heap.objs.size + 3) s1.heap.objs.size (s1.heap.objs.size + 1) ?_,⟨hz,hTI,⟨_,_,hTO⟩,h1,h2⟩,fun c hc=>?_,q⟩
  · constructor <;> (refine nne ?_;omega)
  · have hle:@LE.le Nat _ s1.heap.objs.size c:=by
      simp only [List.mem_cons,List.mem_nil_iff,or_false] at hc
      rcases hc with rfl | rfl | rfl | rfl | rfl <;> omega
    exact I1.fpOk hle (I1.hok.fresh hle)
theorem Vu {K:PySem.W.Frag} {a b:Addr} {xs ys:List V} {g:TG} {tb:TS} {D:Ends} {σ:St} {H:Hp} (hlen:xs.length=ys.length) (Pv:Nat→St→Hp→Prop) (h0:Pv 0 σ H) (hl:∀ i σ H,i≤xs.length→Pv i σ H→SqL K H a xs∧SqL K H b ys)
    (hs:∀ i u v p σ H,xs[i]?=some u→ys[i]?=some v→H p=none→Pv i σ H→g (.ref p) σ (upd H p (.tup [u,v])) fun σ2 H2=>tb { D with nx:=Pv (i + 1),ct:=Pv (i + 1),bk:=D.nx } σ2 H2) (hd:∀ σ H,Pv xs.length σ H→D.nx σ H) :
    ∃ W:Nat→Nat→St→Hp→Prop,(∃ m,W 0 m σ H)∧∀ i m σ H,W i m σ H →
      ((Itz K a b xs ys).stop i H∧D.nx σ H)∨((Itz K a b xs ys).go i H∧∃ N:St→Hp→Prop,(∀ σ' H',N σ' H'→∃ m',m' < m∧W (i + 1) m' σ' H')∧∀ x H',(Itz K a b xs ys).yld i H x H'→g x σ H' fun σ2 H2=>tb { D with nx:=N,ct:=N,bk:=D.nx } σ2 H2):=by
  refine ⟨fun i m σ H=>m=xs.length - i∧i≤xs.length∧Pv i σ H,⟨xs.length - 0,rfl,Nat.zero_le _,h0⟩,?_⟩
  rintro i m σ H ⟨rfl,hi,p⟩
  obtain ⟨qa,qb⟩:=hl i σ H hi p
  by_cases h:i < xs.length
  · refine .inr ⟨⟨qa,qb,h,by omega⟩,Pv (i + 1),fun σ' H' p'=>⟨xs.length - (i + 1),by omega,rfl,h,p'⟩,?_⟩
    rintro x H' ⟨p',u,v,hp,rfl,rfl,hu,hv⟩
    exact hs i u v p' σ H hu hv hp p
  · have e:i=xs.length:=by omega
    subst e
    exact .inl ⟨⟨qa,qb,.inl (Nat.le_refl _)⟩,hd σ H p⟩
end
end L2
namespace L2
open PySem PySem.Spec PyProof.Rows
theorem Yy:∀ {ns:List Int} {us:List Value},Vals (ns.map V.int) us→∃ xs:List (Int × Tok),us=xs.map (fun p=>Value.int p.1 p.2)∧xs.map (·.1)=ns
  | [],_,.nil=>⟨[],rfl,rfl⟩
  | n :: ns,_,.cons r rr=>by
    obtain ⟨t,e⟩:=r
    obtain ⟨xs,e1,e2⟩:=Yy rr
    exact ⟨(n,t) :: xs,by rw [e,e1];rfl,by rw [List.map_cons,e2]⟩
theorem JT (xs:List (Int × Tok)):intItems xs.toArray=(xs.map (fun p=>Value.int p.1 p.2)).toArray:=by
  simp [intItems]
theorem G0 (xs:List (Int × Tok)) (j:Nat):numAt xs.toArray j=(xs.map (·.1)).getD j 0:=by rw [numAt_eq]
theorem ME (xs:List (Int × Tok)) (j:Nat):preSum (numAt xs.toArray) j=((xs.map (·.1)).take j).sum:=by rw [preSum_eq]
def Um (ns:List Int):Prop:=(∀ n ∈ ns,0≤n)∧ns.sum≤1000000000
section
variable {X:Cx}
end
theorem gtI {prog:Program} {w:World} {A:Around} {E:Value→Shared→Prop} {s:Shared} {a M:Int} {t u:Tok} {Q:Value→Shared→Prop} (h:Q (.bool (decide (M < a))) s):wpAny (model prog w) A (richCompare .Gt (.int a t) (.int M u)) Q E s :=
  CmpOf.ints_gt (P:=fun k v=>∃ t,v=.int (if k=0 then a else M) t) (fun k=>if k=0 then a else M) (fun _ _ h=>h) 0 1 _ _ s Q E ⟨t,rfl⟩ ⟨u,rfl⟩ h
def Mx (val:Nat→Int) (i:Nat) (M:Int):Prop:=(∃ j,j < i∧val j=M)∧∀ j,j < i→val j≤M
section
variable {prog:Program} {w:World} {A:Around} {R:Result→Shared→Prop} {I:Addr} {fp wr:List Addr} {n:Nat} {P:Nat→Value→Prop} {St:Nat→Heap→Prop}
theorem Gx (W:Walks prog w A.in1 I fp wr n P St) (val:Nat→Int) (hval:∀ i v,P i v→∃ t,v=.int (val i) t) (d:Value) (S:Addr) (hSf:S ∉ fp) :
    ∀ (k i:Nat) (s:Shared) (ob:List Value) (c:Nat),n - i=k→i≤n→St i s.heap→((i=0∧ob=[])∨∃ M t,ob=[Value.int M t,.int M t]∧Mx val i M) →
      s.heap.get? S=some { cls:=.type "list", dict:=none,data:=.seq ob.toArray c,slots:=#[] } →
      (∀ v h' tk,((n=0∧v=d)∨∃ M t,v=.int M t∧Mx val n M)→(∀ b o,b ∉ wr→b≠S→s.heap.get? b=some o→h'.get? b=some o)→R (.ok (.ret v)) { s with heap:=h',toks:=tk }) →
      codeAny (model prog w) A (.builtin "max.loop" ⟨[.ref I,.none,.ref S],[(Str.ofString "default", d)]⟩) R s:=by
  have hSw:S ∉ wr:=fun h=>hSf (W.sub _ h)
  have hname:(toString "max" ++ toString ".loop" : String) = "max.loop" := by decide
  intro k
  induction k with
  | zero =>
    intro i s ob c hk hi hst hob hS hR
    have hin:i=n:=by omega
    subst hin
    refine codeAny_builtin F.entry_max_loop ?_
    rw [Around.under_plainId F.plain_max_loop _]
    show wpAny _ A.in1 (seqItems? (.ref S) >>= _) _ _ s
    refine wpAny_bind (wpAny_seqItems hS rfl ?_)
    rcases hob with ⟨h0,rfl⟩ | ⟨M,t,rfl,hM⟩
    · show wpAny _ A.in1 (tryCatch (pyNext (.ref I)) _ >>= _) _ _ s
      refine wpAny_bind (wpAny_tryCatch (W.done s _ _ hst fun h' tk hk'=>?_))
      show wpAny _ A.in1 (rule _ >>= _) _ _ _
      exact wpAny_bind (wpAny_rule (wpAny_pure (hR d h' tk (.inl ⟨h0,rfl⟩) fun b o hb _ e=>hk' b o hb e)))
    · show wpAny _ A.in1 (tryCatch (pyNext (.ref I)) _ >>= _) _ _ s
      refine wpAny_bind (wpAny_tryCatch (W.done s _ _ hst fun h' tk hk'=>?_))
      show wpAny _ A.in1 (updateSeq S (fun _=>#[]) >>= _) _ _ _
      refine wpAny_bind (wpAny_updateSeq (hk' S _ hSw hS) rfl (wpAny_bind (wpAny_letGo (wpAny_pure (hR _ _ tk (.inr ⟨M,t,rfl,hM⟩) fun b o hbw hbS e=>?_)))))
      exact (Heap.get?_update_other _ _ (Ne.symm hbS)).trans (hk' b o hbw e)
  | succ k ih =>
    intro i s ob c hk hi hst hob hS hR
    have hlt:i < n:=by omega
    refine codeAny_builtin F.entry_max_loop ?_
    rw [Around.under_plainId F.plain_max_loop _]
    show wpAny _ A.in1 (seqItems? (.ref S) >>= _) _ _ s
    refine wpAny_bind (wpAny_seqItems hS rfl ?_)
    rcases hob with ⟨h0,rfl⟩ | ⟨M,t,rfl,hM⟩
    · show wpAny _ A.in1 (tryCatch (pyNext (.ref I)) _ >>= _) _ _ s
      refine wpAny_bind (wpAny_tryCatch (W.item i s _ _ hlt hst fun v h' tk hP hst' hk'=>?_))
      obtain ⟨tv,rfl⟩:=hval i v hP
      have hS':=hk' S _ hSw hS
      show wpAny _ A.in1 (updateSeq S (fun _=>#[_,_]) >>= _) _ _ _
      refine wpAny_bind (wpAny_updateSeq hS' rfl ?_)
      rw [hname]
      refine wpAny_pure ⟨plainId_quiet F.plain_max_loop _,ih (i + 1) _ [.int (val i) tv,.int (val i) tv] _ (by omega) hlt (W.frame _ _ _ hst' fun b hbf o e=>?_) (.inr ⟨val i,tv,rfl,⟨i,by omega,rfl⟩,fun j hj=>?_⟩) (Heap.get?_update_self _ hS' rfl) fun v h'' tk'' hv hk''=>?_⟩
      · exact (Heap.get?_update_other _ _ (fun h:S=b=>hSf (by rw [h];exact hbf))).trans e
      · have:j=i:=by omega
        rw [this];exact Int.le_refl _
      · exact hR v h'' tk'' hv fun b o hbw hbS e=>hk'' b o hbw hbS ((Heap.get?_update_other _ _ (Ne.symm hbS)).trans (hk' b o hbw e))
    · show wpAny _ A.in1 (tryCatch (pyNext (.ref I)) _ >>= _) _ _ s
      refine wpAny_bind (wpAny_tryCatch (W.item i s _ _ hlt hst fun v h' tk hP hst' hk'=>?_))
      obtain ⟨tv,rfl⟩:=hval i v hP
      have hS':=hk' S _ hSw hS
      show wpAny _ A.in1 (tryCatch (holding [_,_] (richCompare .Gt _ _ >>= _)) _ >>= _) _ _ _
      refine wpAny_bind (wpAny_tryCatch (wpAny_holding (wpAny_bind (gtI (M:=M) ?_))))
      refine wpAny_bind (wpAny_holding (wpAny_truthy_bool ?_))
      refine wpAny_bind (wpAny_letGo (wpAny_pure ?_))
      by_cases hb:M < val i
      · rw [decide_eq_true hb]
        simp only [if_true]
        refine wpAny_bind (wpAny_updateSeq hS' rfl (wpAny_bind (wpAny_letGo ?_)))
        rw [hname]
        refine wpAny_pure ⟨plainId_quiet F.plain_max_loop _,ih (i + 1) _ [.int (val i) tv,.int (val i) tv] _ (by omega) hlt (W.frame _ _ _ hst' fun b hbf o e=>?_) (.inr ⟨val i,tv,rfl,⟨i,by omega,rfl⟩,fun j hj=>?_⟩) (Heap.get?_update_self _ hS' rfl) fun v h'' tk'' hv hk''=>?_⟩
        · exact (Heap.get?_update_other _ _ (fun h:S=b=>hSf (by rw [h];exact hbf))).trans e
        · by_cases hji:j=i
          · rw [hji];exact Int.le_refl _
          · have:=hM.2 j (by omega);omega
        · exact hR v h'' tk'' hv fun b o hbw hbS e=>hk'' b o hbw hbS ((Heap.get?_update_other _ _ (Ne.symm hbS)).trans (hk' b o hbw e))
      · rw [decide_eq_false hb]
        simp only [Bool.false_eq_true,if_false]
        refine wpAny_bind (wpAny_letGo ?_)
        rw [hname]
        refine wpAny_pure ⟨plainId_quiet F.plain_max_loop _,ih (i + 1) _ [.int M t,.int M t] c (by omega) hlt hst' (.inr ⟨M,t,rfl,?_,fun j hj=>?_⟩) hS' fun v h'' tk'' hv hk''=>?_⟩
        · obtain ⟨j,hj,e⟩:=hM.1;exact ⟨j,by omega,e⟩
        · by_cases hji:j=i
          · rw [hji];omega
          · exact hM.2 j (by omega)
        · exact hR v h'' tk'' hv fun b o hbw hbS e=>hk'' b o hbw hbS (hk' b o hbw e)
end
section
variable {prog:Program} {w:World} {A:Around} {E:Value→Shared→Prop} {s:Shared}
theorem V4 (a d:Value):argsOk "max" ⟨[a],[(Str.ofString "default", d)]⟩:=by unfold argsOk;kernel_rfl
theorem VO {l:Addr} {xs:List (Int × Tok)} {d:Value} {Q:Value→Shared→Prop} (hh:A.handled=none) (hl:s.heap.IsList l (intItems xs.toArray))
    (h:∀ v h' tk,((xs.length=0∧v=d)∨∃ M t,v=.int M t∧Mx (numAt xs.toArray) xs.length M)→(∀ b o,s.heap.get? b=some o→h'.get? b=some o)→Q v { s with heap:=h',toks:=tk }) :
    wpAny (model prog w) A (call (.builtin "max") [.ref l] [(Str.ofString "default", d)]) Q E s:=by
  have hname:(toString "max" ++ toString ".loop" : String) = "max.loop" := by decide
  have hsz:(intItems xs.toArray).size=xs.length:=by simp [intItems]
  refine wpAny_call (codeAny_call_builtin F.plain_max F.entry_max ?_)
  have hc:wpAny (model prog w) A.in1 (Builtin.«max» ⟨[.ref l],[(Str.ofString "default", d)]⟩) (fun fin s'=>match fin with
      | .done f=>(match (Except.ok f:Result) with | .ok (.ret v)=>Q v s' | .ok _=>False | .error e=>E e s')
      | .again c'=>c'.quiet=true∧codeAny (model prog w) A c' (fun r s'=>match r with | .ok (.ret v)=>Q v s' | .ok _=>False | .error e=>E e s') s') E s:=by
    show wpAny _ A.in1 (Builtin.Builtins.bindParams "max" ["key", "default"] 0 ⟨[],[(Str.ofString "default", d)]⟩ >>= _) _ _ s
    refine wpAny_bind (wpAny_of_eq (show Builtin.Builtins.bindParams "max" ["key", "default"] 0 ⟨[],[(Str.ofString "default", d)]⟩=pure [none,some d] from rfl) ?_)
    refine wpAny_bind (wpAny_pure ?_)
    refine wpAny_bind (iter_intList hl fun s₂ e st hfp hlI=>?_)
    subst e
    refine wpAny_bind (wpAny_newObj_type ?_)
    have hSf:(s.heap.push { cls:=.type "list_iterator", data:=.fields #[.ref l,.int 0 0] }).objs.size ∉ [s.heap.objs.size,l]:=fun hm=>Nat.lt_irrefl _ (hfp _ hm)
    rw [hname]
    have W:=Walks.list (prog:=prog) (w:=w) (A:=A.in1) hh s.heap.objs.size l hlI (intItems xs.toArray)
    refine wpAny_pure ⟨plainId_quiet F.plain_max_loop _,Gx W (numAt xs.toArray) (fun _ _=>intItems_at) d _ hSf _ 0 _ [] 0 rfl (Nat.zero_le _) (W.frame _ _ _ st fun b _ o e=>Heap.get?_push_of_some _ e) (.inl ⟨rfl,rfl⟩) (Heap.get?_push_size _ rfl) fun v h' tk hv hk=>?_⟩
    rw [hsz] at hv
    exact h v h' tk hv (old_kept fun b o hb e=>hk b o hb (Nat.ne_of_lt (Heap.lt_size e)) (Heap.get?_push_of_some _ e))
  simp only [checkBuiltinCall,F.kind_max]
  cases hsig:Manifest.signature? "max" with
  | none=>exact wpAny_pure hc
  | some sig =>
    have hok:Bind.checkArgs "max" sig ⟨[.ref l],[(Str.ofString "default", d)]⟩=pure ():=by simpa only [argsOk,hsig] using V4 (.ref l) d
    simp only [hok]
    exact wpAny_pure hc
end
end L2
namespace L2
open PySem PySem.Spec PyProof.Rows
section
variable {X:Cx} {x:Str} {p pos:Pos} {e:Expr} {es:List Expr} {kws:List Keyword} {t tk:TA} {id:String} {ks:List Str} {r:List V→List V→Hp→VK→Prop}
def GG (X:Cx) (id:String) (ks:List Str) (r:List V→List V→Hp→VK→Prop):Prop :=
  ∀ (pins:List (Addr × Obj)) (s:Shared) (σ:St) (H:Hp) (vs:List V) (us:List Value) (zs:List V) (ws:List Value) (Q:VK),Inv X pins σ H s→Vals vs us→Vals zs ws→r vs zs H Q→wpAny (model X.prog X.w) X.A (call (.builtin id) us (ks.zip ws)) (EP X pins σ Q) X.xe s
def Rp (r:List V→List V→Hp→VK→Prop) (t tk:TA):TE:=fun σ H Q=>t σ H fun vs H1=>tk σ H1 fun zs H2=>r vs zs H2 Q
theorem VR (hc:GG X id ks r) (hg:Gl X x) (hm:X.mg x=none) (hv:bootBuiltins x=some (.builtin id)) (ha:PA X (e :: es) t) (hkw:PK X kws tk) (hks:(backToKw pos (keywordEach kws X.env)).filterMap (·.1)=ks:=by rfl)
    (hn:x ≠ "__name__" := by decide) (hdb:(x == ("__debug__" : Str))=false:=by decide)
    (he:backTo pos (starEach (e :: es) X.env)=(false,eval e X.env) :: backTo pos (starEach es X.env):=by rfl)
    (hpl:(backTo pos (starEach (e :: es) X.env)).any (·.1)=false:=by rfl)
    (hall:(backToKw pos (keywordEach kws X.env)).all (·.1.isSome)=true:=by rfl)
    (hno:(backToKw pos (keywordEach kws X.env)).any (·.1.isNone)=false:=by rfl):PE X (.Call (.Name x p) (e :: es) kws pos) (Rp r t tk):=by
  intro pins s σ H Q I h
  refine wpAny_Call_Name_kw (ZS I hg hm hv (callWith_kw ?_ he hpl hall hno) hn hdb)
  refine thn (ha pos pins s σ H _ I h) fun us s1 ⟨vs,H1,I1,r1,q⟩=>thn (hkw pos pins s1 σ H1 _ I1 q) fun ws s2 ⟨zs,H2,I2,r2,q2⟩=>?_
  rw [hks]
  exact hc pins s2 σ H2 vs us zs ws Q I2 r1 r2 q2
theorem VW (hc:X.calm=true):GG X "max" ["default"] (fun vs zs H Q=>∃ l ns d,vs=[.ref l]∧zs=[d]∧SqL X.K H l (ns.map V.int)∧(ns=[]→Q d H)∧∀ M,M ∈ ns→(∀ n ∈ ns,n≤M)→Q (.int M) H):=by
  intro pins s σ H vs us zs ws Q I rv rz h
  obtain ⟨l,ns,d,rfl,rfl,hl,q0,q⟩:=h
  cases rv with
  | cons r rr =>
    cases rr
    cases rz with
    | cons rd rrd =>
      cases rrd
      obtain rfl:_=Value.ref l:=r
      obtain ⟨its,rv,pl,_⟩:=I.list hl
      obtain ⟨ys,rfl,e2⟩:=Yy rv
      have hL:s.heap.IsList l (intItems ys.toArray):=by rw [JT];exact pl.isList
      have hlen:ys.length=ns.length:=by rw [← e2];simp
      show wpAny _ _ (call (.builtin "max") [.ref l] [(Str.ofString "default", _)]) _ _ s
      refine VO (I.ok.hd hc) hL fun v h' tk hv hk=>?_
      have I':=I.kept (t':=tk) hk
      rcases hv with ⟨h0,rfl⟩ | ⟨M,t,rfl,⟨j,hj,ej⟩,hM⟩
      · exact ⟨d,H,I',rd,q0 (List.length_eq_zero_iff.mp (by omega))⟩
      · rw [G0,e2] at ej
        refine ⟨.int M,H,I',⟨t,rfl⟩,q M ?_ fun n hn=>?_⟩
        · rw [← ej,List.getD_eq_getElem?_getD,List.getElem?_eq_getElem (by omega)]
          exact List.getElem_mem _
        · obtain ⟨i,hi,rfl⟩:=List.getElem_of_mem hn
          have:=hM i (by omega)
          rw [G0,e2,List.getD_eq_getElem?_getD,List.getElem?_eq_getElem hi] at this
          exact this
end
end L2
namespace L2
open PySem PySem.Spec PyProof.Rows
structure CompG (X:Cx) (xs caps:List Str) (cap:List Nat) (scope:Scope) (cl:List (Str × Addr)):Prop where
  clos:closureFor scope X.env=pure cl
  cell:∀ y ∈ scope.names,y.2≠.cell
  kind:scope.kind=.function
  names:∀ y ∈ scope.names,y.2=.local→scope.names.lookup y.1=some .local
  lx:∀ x ∈ xs,scope.names.lookup x=some .local
  nd:(xs ++ caps).Nodup
  from_:∀ y c,cl.lookup y=some c→X.env.cells.lookup y=some c
  has:∀ y,((relabel scope X.env).names.lookup y=some .cell∨(relabel scope X.env).names.lookup y=some .free)→∃ c,cl.lookup y=some c
  len:cap.length=caps.length
  cps:∀ (i:Nat) (y:Str),caps[i]?=some y→∃ j,cap[i]?=some j∧X.N[j]?=some y∧X.env.scope.names.lookup y=some .cell∧(relabel scope X.env).names.lookup y=some .cell
def XA (cap:List Nat) (σ:St):St:=cap.map fun j=>(σ[j]?).getD none
def W6 (n:Nat) (wi:TI) (cap:List Nat) (g:TG) (tt:TT) (te:TE):TE:=fun σ H Q=>wi σ H fun J H1=>∀ acc,H1 acc=none→∃ W:Nat→Nat→Hp→Prop,(∃ m,W 0 m (upd H1 acc (.lst [])))∧∀ i m H2,W i m H2 →
  (J.stop i H2∧Q (.ref acc) H2)∨(J.go i H2∧∀ x H3,J.yld i H2 x H3→∀ as:St,as.length=n→g x (as ++ XA cap σ) H3 fun σ4 H4=>(∃ bs:St,bs.length=n∧σ4=bs ++ XA cap σ)∧tt σ4 H4 fun ok H5=>if ok=true then
    te σ4 H5 (fun y H6=>∃ ys,H6 acc=some (.lst ys)∧ys.length < sizeLine∧∃ m',m' < m∧W (i + 1) m' (upd H6 acc (.lst (ys ++ [y]))))
    else ∃ m',m' < m∧W (i + 1) m' H5)
theorem U1 {X:Cx} {elt iter tg:Expr} {xs:List Str} {ifs:List Expr} {scope:Scope} {pos pos':Pos} {wi:TI} {g:TG} {tt:TT} {te:TE} {cl:List (Str × Addr)} {caps:List Str} {cap:List Nat}
    (O:CompG X xs caps cap scope cl) (hc:X.calm=true) (hi:PI X tg iter wi) (hg:∀ C fp s₀ H₀,PG (Q5 X (xs ++ caps) scope cl C fp s₀ H₀) tg g)
    (ht:∀ C fp s₀ H₀,PF (Q5 X (xs ++ caps) scope cl C fp s₀ H₀) ifs tt) (he:∀ C fp s₀ H₀,PE (Q5 X (xs ++ caps) scope cl C fp s₀ H₀) elt te)
    (hs:∀ x,foldedSetIterable iter X.env x=pure x) {pins:List (Addr × Obj)} {s:Shared} {σ:St} {H:Hp} {Q:VK} {use:Option (Value→Sem Unit)} {QQ:Value→Shared→Prop} (I:Inv X pins σ H s)
    (h:W6 xs.length wi cap g tt te σ H Q)
    (hfin:∀ D C H' s',Inv X pins σ H' s'→OwnAt X pins H' s' C→Q (.ref D) H'→compPost (model X.prog X.w) X.A X.xe use QQ (.ref D) C (.ok .next) s') :
    wpAny (model X.prog X.w) X.A (comprehension (.ListComp elt [⟨tg,iter,ifs,0⟩] scope pos) scope X.env pos' (newList []) false (eval iter X.env) use) QQ X.xe s:=by
  refine wpAny_comprehension_free rfl hs O.clos O.kind O.names (thn (hi pins s σ H _ I h) fun v s1 h1=>thn h1 fun itv s2 h2=>?_)
  obtain ⟨it,fp,tn,J,H1,e,I2,T,t0,f2,hR⟩:=h2
  subst e
  refine wpAny_newObj_type (wpAny_newFunctionEnv O.cell (by intro y hy;simp at hy) (fun h₁ hns hsb=>?_) O.kind)
  have hacc:H1 s2.heap.objs.size=none:=I2.fresh
  obtain ⟨W,⟨m0,w0⟩,turn⟩:=hR s2.heap.objs.size hacc
  have I3:Inv X pins σ (upd H1 s2.heap.objs.size (.lst [])) { s2 with heap:=s2.heap.push { cls:=.type "list", data:=.seq ([]:List Value).toArray } }:=I2.lnew (t':=s2.toks) (ys:=[]) (its:=[]) .nil (Nat.zero_le _)
  generalize hs3:({ s2 with heap:=s2.heap.push { cls:=.type "list", data:=.seq ([]:List Value).toArray } }:Shared)=s3 at hns hsb I3 ⊢
  generalize hD:s2.heap.objs.size=D at I3 w0 turn hacc ⊢
  generalize hH3:upd H1 D (.lst [])=H3 at I3 w0
  have keep3:∀ b o,s3.heap.get? b=some o→h₁.get? b=some o:=fun b o e=>(hsb.2 b (Nat.ne_of_lt (Heap.lt_size e))).trans (Heap.get?_push_of_some _ e)
  have hfp3:∀ b ∈ fp,H3 b=none:=fun b hb=>by
    rw [← hH3,Qg]
    · exact (f2 b hb).1
    · intro z
      obtain ⟨o,e,_⟩:=T.obj _ _ t0 b hb
      exact absurd (Heap.lt_size e) (by rw [z,hD];exact Nat.lt_irrefl _)
  have hCfresh:H3 s3.heap.objs.size=none:=I3.fresh
  have hCfp:∀ b ∈ fp,b≠s3.heap.objs.size:=fun b hb z=>by
    obtain ⟨o,e,_⟩:=T.obj _ _ t0 b hb
    have h2:s3.heap.objs.size=s2.heap.objs.size + 1:=by rw [← hs3];exact Heap.size_push ..
    exact absurd (Heap.lt_size e) (by rw [z,h2];exact Nat.not_lt.mpr (Nat.le_succ _))
  have t3:tn 0 h₁:=T.keep _ _ _ t0 fun b hb o e=>keep3 b o (by rw [← hs3];exact Heap.get?_push_of_some _ e)
  have ok':(Q5 X (xs ++ caps) scope cl s3.heap.objs.size fp s3 H3).Ok:=by
    refine ⟨I3.ok.mod,O.kind,I3.ok.glob,I3.ok.blt,Nat.le_refl _,fun y z c e1 e2=>I3.ok.inj y z c (O.from_ y c e1) (O.from_ z c e2),fun y hy=>O.has y hy,fun y c z _=>(nomatch z),I3.ok.hd,I3.ok.frames,.inl rfl,fun b hb=>⟨hCfp b hb,fun y c e=>?_⟩,I3.bs,Nat.le_trans I3.ok.bsz I3.sz,fun b o e hb=>?_,fun b hb z=>?_,I3.stack,I3.stkFree⟩
    · exact (f2 b hb).2.2.2.2.1 y c (O.from_ y c e)
    · rcases (f2 b hb).2.2.2.1 with q | q
      · exact I3.ok.noex b o e q
      · exact absurd (Nat.lt_of_lt_of_le (Heap.lt_size e) (Nat.le_trans I3.ok.bsz q)) (Nat.lt_irrefl _)
    · rcases List.mem_cons.mp (I3.stkSub b z) with q | q
      · exact (f2 b hb).2.1 q
      · exact (f2 b hb).2.2.1 q
  have I4:Inv (Q5 X (xs ++ caps) scope cl s3.heap.objs.size fp s3 H3) [] (List.replicate xs.length none ++ XA cap σ) H3 { s3 with heap:=h₁,toks:=s3.toks + ([]:List (Str × Value)).length }:=by
    obtain ⟨m,hn,hl⟩:=id I3.loc
    refine ⟨ok',rfl,I3.bare,Un.kept keep3,⟨_,hns,fun i y v e1 e2 e3=>?_⟩,fun y c e=>?_,hCfresh,fun y c e=>I3.freeC y c (O.from_ y c e),fun p hp=>(nomatch hp),I3.hok.kept keep3,?_⟩
    · by_cases hix:i < xs.length
      · rw [List.getElem?_append_left (by rw [List.length_replicate];exact hix),List.getElem?_replicate,if_pos hix] at e2
        cases e2
      · have e1':caps[i - xs.length]?=some y:=by
          have e1'':(xs ++ caps)[i]?=some y:=e1
          rwa [List.getElem?_append_right (by omega)] at e1''
        obtain ⟨j,hj,hN,hk,hk'⟩:=O.cps _ y e1'
        have e2':(σ[j]?).getD none=some v:=by
          rw [List.getElem?_append_right (by rw [List.length_replicate];omega),List.length_replicate] at e2
          unfold XA at e2
          simpa [hj] using e2
        have e2'':σ[j]?=some (some v):=by
          cases q:σ[j]? with
          | none=>rw [q] at e2';cases e2'
          | some a=>rw [q] at e2';exact congrArg some e2'
        obtain ⟨u,r,l⟩:=hl j y v hN e2'' (.inr (.inl hk))
        refine ⟨u,r,?_⟩
        rcases l with ⟨k,_⟩ | ⟨k,c,e,z⟩
        · have k':X.env.scope.names.lookup y=some .local:=k
          rw [hk] at k';cases k'
        · obtain ⟨c',hc'⟩:=O.has y (.inl hk')
          have:c'=c:=Option.some.inj ((O.from_ y c' hc').symm.trans e)
          subst this
          refine .inr ⟨.inl hk',c',hc',?_⟩
          obtain ⟨o,ho,hd⟩:=z
          exact ⟨o,keep3 _ _ ho,hd⟩
    · obtain ⟨v,o,ho,hd⟩:=I3.cell y c (O.from_ y c e)
      exact ⟨v,o,keep3 _ _ ho,hd⟩
    · show (List.replicate xs.length none ++ XA cap σ).length=(xs ++ caps).length
      simp [XA,O.len]
  have fin:∀ (H':Hp) (σ':St) (s':Shared),Inv (Q5 X (xs ++ caps) scope cl s3.heap.objs.size fp s3 H3) [] σ' H' s'→Q (.ref D) H' →
      compPost (model X.prog X.w) X.A X.xe use QQ (.ref D) s3.heap.objs.size (.ok .next) s':=fun H' σ' s' I' q=>by
    obtain ⟨m,hn,_⟩:=id I'.loc
    have hU:Un (frs X.stack) fp H3 H' s3.heap s'.heap:=I'.base
    have hok2:HOk X.prog X.w H' s'.heap:=I'.hok
    have os':s'.os=s3.os:=I'.os
    have I6:Inv X pins σ H' s':=I3.call' (ch:=fp) os' hU hok2 I'.bare (fun b hb=>⟨(f2 b hb).2.2.2.1,(f2 b hb).2.1,(f2 b hb).2.2.2.2⟩)
    refine hfin D _ H' s' I6 ⟨⟨m,hn⟩,I'.free,Nat.ne_of_gt I3.lt,I3.sz,fun y c e z=>?_,fun p hp z=>?_⟩ q
    · obtain ⟨v,hv⟩:=I3.cell y c e
      exact absurd hv.lt (by rw [z];exact Nat.lt_irrefl _)
    · exact absurd (Heap.lt_size (I3.pin p hp).1) (by rw [z];exact Nat.lt_irrefl _)
  have stat:∀ {H':Hp},(∀ b ∈ fp,H' b=none)→∀ b ∈ fp,Yx (Q5 X (xs ++ caps) scope cl s3.heap.objs.size fp s3 H3) [] H' b:=fun hn b hb =>
    ⟨hn b hb,hCfp b hb,ok'.exfs b hb,.inl hb,fun y c e=>(f2 b hb).2.2.2.2.1 y c (O.from_ y c e),fun p hp=>(nomatch hp)⟩
  have loop:codeAny (model X.prog X.w) X.A (.compLoop (.ListComp elt [⟨tg,iter,ifs,0⟩] scope pos) 0 (.ref it) (.ref D) (compEnvC scope cl s3.heap.objs.size X.env))
      (compPost (model X.prog X.w) X.A X.xe use QQ (.ref D) s3.heap.objs.size) { s3 with heap:=h₁,toks:=s3.toks + ([]:List (Str × Value)).length }:=by
    refine codeAny_loop rfl (fun n s'=>∃ i as H',as.length=xs.length∧Inv (Q5 X (xs ++ caps) scope cl s3.heap.objs.size fp s3 H3) [] (as ++ XA cap σ) H' s'∧tn i s'.heap∧(∀ b ∈ fp,H' b=none)∧W i n H') ?_ m0 ⟨0,_,H3,List.length_replicate,I4,t3,hfp3,w0⟩
    rintro n s5 ⟨i,as,H5,has,I5,st5,fr5,w5⟩
    show wpAny _ _ ((compTurn (.ListComp elt [⟨tg,iter,ifs,0⟩] scope pos) 0 (.ref it) (.ref D) (compEnvC scope cl s3.heap.objs.size X.env)).onRaise (fun x=>do noteFrame x (compEnvC scope cl s3.heap.objs.size X.env);theTreesLotGoes x)) _ _ s5
    refine wpAny_noted ?_
    rw [compTurn_list]
    refine wpAny_bind (wpAny_standAt (wpAny_bind ?_))
    have bad:∀ {M:Model} {A:Around} {α:Type} {t:Sem α} {P:α→Shared→Prop} {E':Value→Shared→Prop} {s':Shared},wpAny M A t P (fun _ _=>False) s'→wpAny M A t P E' s':=fun h=>wpAny_mono h (fun _ _ q=>q) fun _ _ z=>z.elim
    rcases turn i n H5 w5 with ⟨stop,qn⟩ | ⟨go,step⟩
    · refine bad (thn (T.done (Q5 X (xs ++ caps) scope cl s3.heap.objs.size fp s3 H3) rfl rfl rfl hc i [] s5 _ H5 (fun _ _=>False) I5 (stat fr5) st5 stop) fun r s6 ⟨hr,I6⟩=>?_)
      subst hr
      exact wpAny_pure (fin H5 _ s6 I6 qn)
    · refine bad (thn (T.item (Q5 X (xs ++ caps) scope cl s3.heap.objs.size fp s3 H3) rfl rfl rfl hc i [] s5 _ H5 (fun _ _=>False) I5 (stat fr5) st5 go) fun r s6 ⟨u,hr,h6⟩=>?_)
      subst hr
      refine wpAny_bind (bad (thn h6 fun _ s7 ⟨y,H7,I7,r7,y7,st7,fr7⟩=>?_))
      have I7':=I7.pinned (stat fr7) (T.obj _ _ st7)
      have goal:=step y H7 y7 as has
      refine wpAny_bind (bad (thn (hg s3.heap.objs.size fp s3 H3 _ s7 _ H7 y _ _ I7' r7 goal) fun _ s8 ⟨σ8,H8,I8,⟨bs,hbs,eσ⟩,goal8⟩=>?_))
      subst eσ
      refine wpAny_bind (bad (thn (ht s3.heap.objs.size fp s3 H3 _ s8 _ H8 _ I8 goal8) fun okb s9 ⟨H9,I9,q9⟩=>?_))
      have again:∀ {H10:Hp} {s10:Shared} {m':Nat},Inv (Q5 X (xs ++ caps) scope cl s3.heap.objs.size fp s3 H3) ([] ++ Ja fp s7.heap) (bs ++ XA cap σ) H10 s10→m' < n→W (i + 1) m' H10 →
          ∃ m,m < n∧∃ i as H',as.length=xs.length∧Inv (Q5 X (xs ++ caps) scope cl s3.heap.objs.size fp s3 H3) [] (as ++ XA cap σ) H' s10∧tn i s10.heap∧(∀ b ∈ fp,H' b=none)∧W i m H':=fun {H10 s10 m'} I10 hm w10=>by
        refine ⟨m',hm,i + 1,bs,H10,hbs,I10.unpinned,T.keep _ _ _ st7 fun b hb o e=>(I10.pin (b,o) (List.mem_append_right _ (List.mem_append_right _ (ZX hb e)))).1,fun b hb=>?_,w10⟩
        obtain ⟨o,e,d⟩:=T.obj _ _ st7 b hb
        exact (I10.pin (b,o) (List.mem_append_right _ (List.mem_append_right _ (ZX hb e)))).2.1
      cases okb with
      | false =>
        rw [if_neg Bool.false_ne_true] at q9
        obtain ⟨m',hm,w9⟩:=q9
        exact wpAny_pure ⟨rfl,again I9 hm w9⟩
      | true =>
        rw [if_pos rfl] at q9
        refine wpAny_bind (wpAny_bind (bad (thn (he s3.heap.objs.size fp s3 H3 _ s9 _ H9 _ I9 q9) fun yv s10 ⟨yy,H10,I10,r10,ys,hys,hlen,m',hm,w10⟩=>?_)))
        refine wpAny_bind (bad (thn (Q0 (X:=Q5 X (xs ++ caps) scope cl s3.heap.objs.size fp s3 H3) _ s10 _ H10 (.ref D) [yy] (.ref D) [yv] (fun _ H11=>W (i + 1) m' H11) I10 rfl (.cons r10 .nil) ⟨D,ys,yy,rfl,rfl,hys,hlen,w10⟩) fun _ s11 ⟨_,H11,I11,_,q11⟩=>?_))
        exact wpAny_pure (wpAny_pure ⟨rfl,again I11 hm q11⟩)
  refine codeAny_compStart_list loop (T.self _ 0 _ _ _ t3 loop)
theorem QI {X:Cx} {elt iter tg:Expr} {xs:List Str} {ifs:List Expr} {scope:Scope} {pos:Pos} {wi:TI} {g:TG} {tt:TT} {te:TE} {cl:List (Str × Addr)} {caps:List Str} {cap:List Nat}
    (O:CompG X xs caps cap scope cl) (hc:X.calm=true) (hi:PI X tg iter wi) (hg:∀ C fp s₀ H₀,PG (Q5 X (xs ++ caps) scope cl C fp s₀ H₀) tg g)
    (ht:∀ C fp s₀ H₀,PF (Q5 X (xs ++ caps) scope cl C fp s₀ H₀) ifs tt) (he:∀ C fp s₀ H₀,PE (Q5 X (xs ++ caps) scope cl C fp s₀ H₀) elt te)
    (hs:∀ x,foldedSetIterable iter X.env x=pure x:=by intro _;rfl) :
    PE X (.ListComp elt [⟨tg,iter,ifs,0⟩] scope pos) (W6 xs.length wi cap g tt te):=by
  intro pins s σ H Q I h
  rw [eval_ListComp]
  exact U1 (use:=none) O hc hi hg ht he hs I h fun D C H' s' I' o q=>by
    obtain ⟨m,hn⟩:=o.ns
    exact ⟨m,hn,fun h' hb=>⟨.ref D,H',o.go I' hb,rfl,q⟩⟩
theorem ZC {X:Cx} {elt iter tg:Expr} {xs:List Str} {y:Str} {py:Pos} {ifs:List Expr} {scope:Scope} {pos spos:Pos} {wi:TI} {g:TG} {tt:TT} {te:TE} {cl:List (Str × Addr)} {caps:List Str} {cap:List Nat} {i:Nat}
    (O:CompG X xs caps cap scope cl) (hc:X.calm=true) (hi:PI X tg iter wi) (hg:∀ C fp s₀ H₀,PG (Q5 X (xs ++ caps) scope cl C fp s₀ H₀) tg g)
    (ht:∀ C fp s₀ H₀,PF (Q5 X (xs ++ caps) scope cl C fp s₀ H₀) ifs tt) (he:∀ C fp s₀ H₀,PE (Q5 X (xs ++ caps) scope cl C fp s₀ H₀) elt te)
    (hN:X.N.Nodup) (hy:X.N[i]?=some y) (hl:X.env.scope.names.lookup y=some .local)
    (hsw:swapsWith (.ListComp elt [⟨tg,iter,ifs,0⟩] scope pos) (some (.Name y py)) spos.line X.env=pure true:=by rfl)
    (hs:∀ x,foldedSetIterable iter X.env x=pure x:=by intro _;rfl) :
    PS X (.Assign [.Name y py] (.ListComp elt [⟨tg,iter,ifs,0⟩] scope pos) spos) (Oe (W6 xs.length wi cap g tt te) (Zo i)):=by
  intro pins s σ H D I h
  rw [exec_Assign_Name_used _ _ _ _ hsw]
  refine wpAny_bind (wpAny_standAt (wpAny_bind ?_))
  show wpAny _ X.A (do let _ ← comprehension (.ListComp elt [⟨tg,iter,ifs,0⟩] scope pos) scope X.env _ (newList []) false (eval iter X.env) (some (assign (.Name y py) X.env))) _ _ s
  refine wpAny_bind (thn (U1 (use:=some (assign (.Name y py) X.env)) (QQ:=fun _ s'=>SP X pins D .next s') O hc hi hg ht he hs I h fun Dd C H' s' I' o q=>?_) fun _ s' hq=>wpAny_pure (wpAny_pure hq))
  obtain ⟨m,hn⟩:=o.ns
  show wpAny _ X.A (assign (.Name y py) X.env (.ref Dd)) _ _ s'
  refine wpAny_assign_Name (JE (v:=.ref Dd) I' hN hy (.inl hl) rfl (fun s2 I2 sb=>?_) (.inr hl))
  obtain ⟨a,sb,ha⟩:=sb
  have hCa:C≠a:=by
    rcases ha with z | z
    · rw [z];exact o.loc
    · exact Ne.symm (o.cells y a z)
  have o2:OwnAt X pins H' s2 C:=⟨⟨m,hn.sameBut sb hCa⟩,o.free,o.loc,o.above,o.cells,o.pins⟩
  refine ⟨m,hn.sameBut sb hCa,fun h' hb=>?_⟩
  exact ⟨_,H',o2.go I2 hb,q⟩
section
variable {X:Cx} {xs caps:List Str} {cap:List Nat} {scope:Scope} {cl:List (Str × Addr)}
theorem Zk {x:Str} {px:Pos} (O:CompG X [x] caps cap scope cl):∀ C fp s₀ H₀,PG (Q5 X ([x] ++ caps) scope cl C fp s₀ H₀) (.Name x px) (Zo 0):=fun C fp s₀ H₀ =>
  Qu (X:=Q5 X ([x] ++ caps) scope cl C fp s₀ H₀) (i:=0) O.nd rfl (.inl (lookup_relabel_local (O.lx x (by simp)))) (.inr (lookup_relabel_local (O.lx x (by simp))))
theorem X2 {x y:Str} {px py pos:Pos} {k:Nat} (O:CompG X [x,y] caps cap scope cl) (hc:X.calm=true):∀ C fp s₀ H₀,PG (Q5 X ([x,y] ++ caps) scope cl C fp s₀ H₀) (.Tuple [.Name x px,.Name y py] k pos) (Mu X.K 2 (YI (Zo 0) (YI (Zo 1) Lc))):=fun C fp s₀ H₀ =>
  ZY (X:=Q5 X ([x,y] ++ caps) scope cl C fp s₀ H₀) hc (QF (Qu (i:=0) O.nd rfl (.inl (lookup_relabel_local (O.lx x (by simp)))) (.inr (lookup_relabel_local (O.lx x (by simp)))))
    (QF (Qu (i:=1) O.nd rfl (.inl (lookup_relabel_local (O.lx y (by simp)))) (.inr (lookup_relabel_local (O.lx y (by simp))))) Zq))
end
theorem JQ {k:NameKind} {y:Str}:∀ {l:List (Str × NameKind)},l.lookup y=some k→(y,k) ∈ l
  | [],h=>by simp at h
  | (n,j) :: r,h=>by
    cases hx:y == n with
    | true =>
      simp only [List.lookup_cons,hx] at h
      have:y=n:=by simpa using hx
      cases h
      rw [this];exact List.mem_cons_self
    | false =>
      simp only [List.lookup_cons,hx] at h
      exact List.mem_cons_of_mem _ (JQ h)
theorem UY {y:Str} {c:Addr}:∀ {l:List (Str × Addr)},l.lookup y=some c→(y,c) ∈ l
  | [],h=>by simp at h
  | (n,j) :: r,h=>by
    cases hx:y == n with
    | true =>
      simp only [List.lookup_cons,hx] at h
      have:y=n:=by simpa using hx
      cases h
      rw [this];exact List.mem_cons_self
    | false =>
      simp only [List.lookup_cons,hx] at h
      exact List.mem_cons_of_mem _ (UY h)
theorem UF {y:Str} {c:Addr}:∀ {l:List (Str × Addr)},(y,c) ∈ l→∃ c',l.lookup y=some c'
  | [],h=>by cases h
  | (n,j) :: r,h=>by
    cases hx:y == n with
    | true=>exact ⟨j,by simp only [List.lookup_cons,hx]⟩
    | false =>
      simp only [List.lookup_cons,hx]
      rcases List.mem_cons.mp h with z | z
      · have:y=n:=congrArg Prod.fst z
        rw [this] at hx
        simp at hx
      · exact UF z
theorem YE {env:Env} {y:Str} (hf:env.scope.kind=.function) (hy:env.kindOf y=some .cell):∀ {names:List (Str × NameKind)},names.lookup y=some .free →
    (names.map fun (n,k)=>if (k == NameKind.free && env.scope.kind == .function && env.kindOf n == some .cell) then (n,NameKind.cell) else (n,k)).lookup y=some .cell
  | [],h=>by simp at h
  | (n,k) :: r,h=>by
    show List.lookup y ((if (k == NameKind.free && env.scope.kind == .function && env.kindOf n == some .cell)=true then (n,NameKind.cell) else (n,k)) :: _)=_
    cases hx:y == n with
    | true =>
      simp only [List.lookup_cons,hx] at h
      have e:y=n:=by simpa using hx
      cases h
      rw [← e,hf,hy]
      simp
    | false =>
      simp only [List.lookup_cons,hx] at h
      have ih:=YE hf hy h
      split
      · simp only [List.lookup_cons,hx];exact ih
      · simp only [List.lookup_cons,hx];exact ih
def U2 (names:List (Str × NameKind)):List Str:=names.filterMap fun z=>if z.2 == NameKind.free then some z.1 else none
theorem Yz {env:Env}:∀ (names:List (Str × NameKind)) (caps:List Str) (cs:List Addr) (acc:List (Str × Addr)),U2 names=caps→caps.map (fun y=>env.cells.lookup y)=cs.map some →
    (forIn names acc fun (x:Str × NameKind) (r:List (Str × Addr))=>(if (x.2 == NameKind.free)=true then do let a ← cellOf env x.1;pure (ForInStep.yield ((x.1,a) :: r)) else pure (ForInStep.yield r):Sem (ForInStep (List (Str × Addr)))))=(pure ((caps.zip cs).reverse ++ acc):Sem (List (Str × Addr)))
  | [],caps,cs,acc,h1,h2=>by
    have:caps=[]:=h1.symm
    subst this
    simp
  | (n,k) :: r,caps,cs,acc,h1,h2=>by
    rw [List.forIn_cons]
    by_cases hk:(k == NameKind.free)=true
    · have e1:caps=n :: U2 r:=by
        rw [← h1];unfold U2
        rw [List.filterMap_cons]
        simp only [hk,if_true]
      subst e1
      cases cs with
      | nil=>simp at h2
      | cons c cs =>
        simp only [List.map_cons,List.cons.injEq] at h2
        have hcell:cellOf env n=pure c:=by unfold cellOf;rw [h2.1]
        simp only [hk,if_true,hcell,pure_bind]
        rw [Yz r _ cs ((n,c) :: acc) rfl h2.2]
        simp
    · have e1:caps=U2 r:=by
        rw [← h1];unfold U2
        rw [List.filterMap_cons]
        simp only [hk]
        rfl
      subst e1
      simp only [hk,if_false,pure_bind]
      exact Yz r _ cs acc rfl h2
theorem Ug {env:Env} {scope:Scope} {caps:List Str} {cs:List Addr} (hf:U2 scope.names=caps) (hc:caps.map (fun y=>env.cells.lookup y)=cs.map some):closureFor scope env=pure (caps.zip cs).reverse:=by
  have h:=Yz (env:=env) scope.names caps cs [] hf hc
  rw [List.append_nil] at h
  unfold closureFor
  simp only [bind_pure]
  exact h
theorem CompG.many {X:Cx} {xs caps:List Str} {cap:List Nat} {cs:List Addr} {scope:Scope} (hk:scope.kind=.function) (hf:X.env.scope.kind=.function) (hfr:U2 scope.names=caps)
    (hnc:∀ z ∈ scope.names,z.2≠.cell) (hl:∀ y ∈ scope.names,y.2=.local→scope.names.lookup y.1=some .local) (hlx:∀ x ∈ xs,scope.names.lookup x=some .local) (hnd:(xs ++ caps).Nodup)
    (hfl:∀ y ∈ caps,scope.names.lookup y=some .free) (hce:caps.map (fun y=>X.env.scope.names.lookup y)=caps.map fun _=>some .cell) (hcs:caps.map (fun y=>X.env.cells.lookup y)=cs.map some)
    (hN:cap.map (fun j=>X.N[j]?)=caps.map some):CompG X xs caps cap scope (caps.zip cs).reverse:=by
  have hlen:caps.length=cs.length:=by simpa using congrArg List.length hcs
  have at_cs:∀ (i:Nat) (y:Str),caps[i]?=some y→∃ c,cs[i]?=some c∧X.env.cells.lookup y=some c:=fun i y h=>by
    have e:=congrArg (fun l=>l[i]?) hcs
    simp only [List.getElem?_map,h] at e
    cases q:cs[i]? with
    | none=>rw [q] at e;simp at e
    | some c=>rw [q] at e;exact ⟨c,rfl,by simpa using e⟩
  refine ⟨Ug hfr hcs,hnc,hk,hl,hlx,hnd,fun y c h=>?_,fun y h=>?_,?_,fun i y h=>?_⟩
  · have hm:=UY h
    rw [List.mem_reverse] at hm
    obtain ⟨i,hi,e⟩:=List.getElem_of_mem hm
    have hi1:i < caps.length:=by rw [List.length_zip] at hi;omega
    have hi2:i < cs.length:=by rw [List.length_zip] at hi;omega
    rw [List.getElem_zip] at e
    obtain ⟨c',e1,e2⟩:=at_cs i caps[i] (List.getElem?_eq_getElem hi1)
    have e3:caps[i]=y:=congrArg Prod.fst e
    have e4:cs[i]=c:=congrArg Prod.snd e
    rw [List.getElem?_eq_getElem hi2,e4] at e1
    cases e1
    rw [← e3];exact e2
  · have hm:y ∈ caps:=by
      have aux:∀ k:NameKind,(k=.cell∨k=.free)→(relabel scope X.env).names.lookup y=some k→y ∈ caps:=fun k hk h=>by
        have h1:=JQ h
        obtain ⟨z,hz,e⟩:=List.mem_map.mp h1
        obtain ⟨n,kk⟩:=z
        have hfree:kk=.free∧n=y:=by
          dsimp only at e
          split at e
          · rename_i q
            simp only [Bool.and_eq_true] at q
            exact ⟨by simpa using q.1.1,congrArg Prod.fst e⟩
          · have e2:kk=k:=congrArg Prod.snd e
            refine ⟨?_,congrArg Prod.fst e⟩
            rcases hk with z | z
            · exact absurd (e2.trans z) (hnc _ hz)
            · exact e2.trans z
        rw [← hfr]
        refine List.mem_filterMap.mpr ⟨(n,kk),hz,?_⟩
        rw [hfree.1,hfree.2];rfl
      rcases h with h | h
      · exact aux _ (.inl rfl) h
      · exact aux _ (.inr rfl) h
    obtain ⟨i,hi,e⟩:=List.getElem_of_mem hm
    have hi2:i < cs.length:=by omega
    refine UF (c:=cs[i]) ?_
    rw [List.mem_reverse]
    have hiz:i < (caps.zip cs).length:=by rw [List.length_zip];omega
    have:=List.getElem_mem hiz
    rw [List.getElem_zip,e] at this
    exact this
  · have:=congrArg List.length hN
    simpa using this
  · have e:=congrArg (fun l=>l[i]?) hN
    simp only [List.getElem?_map,h] at e
    have hm:=List.mem_of_getElem? h
    cases q:cap[i]? with
    | none=>rw [q] at e;simp at e
    | some j =>
      rw [q] at e
      have hcell:X.env.scope.names.lookup y=some .cell:=by
        have e2:=congrArg (fun l=>l[i]?) hce
        simpa only [List.getElem?_map,h,Option.map_some,Option.some.injEq] using e2
      exact ⟨j,rfl,by simpa using e,hcell,YE hf hcell (hfl y hm)⟩
theorem Q9 {J:It} {n N:Nat} {cs:St} {g:TG} {tt:TT} {te:TE} {H1:Hp} {acc:Addr} {Q:Hp→Prop} (Pv:Nat→List V→Hp→Prop) (h0:Pv 0 [] (upd H1 acc (.lst [])))
    (hstop:∀ ys H,Pv N ys H→J.stop N H∧Q H)
    (hstep:∀ i ys H,i < N→Pv i ys H→J.go i H∧∀ x H3,J.yld i H x H3→∀ as:St,as.length=n→g x (as ++ cs) H3 fun σ4 H4=>(∃ bs:St,bs.length=n∧σ4=bs ++ cs)∧tt σ4 H4 fun ok H5=>if ok=true then te σ4 H5 (LL N Pv acc i (N - i)) else ∃ m',m' < N - i∧XL N Pv (i + 1) m' H5) :
    ∃ W:Nat→Nat→Hp→Prop,(∃ m,W 0 m (upd H1 acc (.lst [])))∧∀ i m H2,W i m H2 →
      (J.stop i H2∧Q H2)∨(J.go i H2∧∀ x H3,J.yld i H2 x H3→∀ as:St,as.length=n→g x (as ++ cs) H3 fun σ4 H4=>(∃ bs:St,bs.length=n∧σ4=bs ++ cs)∧tt σ4 H4 fun ok H5=>if ok=true then
        te σ4 H5 (fun y H6=>∃ ys,H6 acc=some (.lst ys)∧ys.length < sizeLine∧∃ m',m' < m∧W (i + 1) m' (upd H6 acc (.lst (ys ++ [y]))))
        else ∃ m',m' < m∧W (i + 1) m' H5):=by
  refine ⟨XL N Pv,⟨N - 0,rfl,Nat.zero_le _,[],h0⟩,?_⟩
  rintro i m H2 ⟨rfl,hi,ys,p⟩
  by_cases h:i < N
  · exact .inr (hstep i ys H2 h p)
  · have e:i=N:=by omega
    subst e
    exact .inl (hstop ys H2 p)
abbrev Gb (N:Nat) (Pv:Nat→List V→Hp→Prop) (acc:Addr) (i:Nat) (te:TE) (σ:St):Bool→Hp→Prop:=fun ok H5=>if ok=true then te σ H5 (LL N Pv acc i (N - i)) else ∃ m',m' < N - i∧XL N Pv (i + 1) m' H5
abbrev UE (J:It) (n:Nat) (cs:St) (g:TG) (tt:TT) (te:TE) (H1:Hp) (acc:Addr) (Q:Hp→Prop):Prop :=
  ∃ W:Nat→Nat→Hp→Prop,(∃ m,W 0 m (upd H1 acc (.lst [])))∧∀ i m H2,W i m H2 →
      (J.stop i H2∧Q H2)∨(J.go i H2∧∀ x H3,J.yld i H2 x H3→∀ as:St,as.length=n→g x (as ++ cs) H3 fun σ4 H4=>(∃ bs:St,bs.length=n∧σ4=bs ++ cs)∧tt σ4 H4 fun ok H5=>if ok=true then
        te σ4 H5 (fun y H6=>∃ ys,H6 acc=some (.lst ys)∧ys.length < sizeLine∧∃ m',m' < m∧W (i + 1) m' (upd H6 acc (.lst (ys ++ [y]))))
        else ∃ m',m' < m∧W (i + 1) m' H5)
section
variable {K:PySem.W.Frag} {a b acc:Addr} {xs zs:List V} {tt:TT} {te:TE} {cs:St} {H1:Hp} {Q:Hp→Prop}
theorem ZT (Pv:Nat→List V→Hp→Prop) (h0:Pv 0 [] (upd H1 acc (.lst []))) (hl:∀ i ys H,i≤xs.length→Pv i ys H→SqL K H a xs)
    (hs:∀ i x ys H,i < xs.length→xs[i]?=some x→Pv i ys H→tt (some x :: cs) H (Gb xs.length Pv acc i te (some x :: cs))) (hd:∀ ys H,Pv xs.length ys H→Q H):UE (Itl K a) 1 cs (Zo 0) tt te H1 acc Q:=by
  refine Q9 Pv h0 (fun ys H p=>⟨⟨xs,hl _ _ _ (Nat.le_refl _) p,Nat.le_refl _⟩,hd ys H p⟩) fun i ys H hi p=>⟨⟨xs,xs[i],hl _ _ _ (Nat.le_of_lt hi) p,List.getElem?_eq_getElem hi⟩,?_⟩
  rintro x H3 ⟨rfl,hx⟩ as has
  obtain ⟨a0,rfl⟩ : ∃ a0,as=[a0]:=List.length_eq_one_iff.mp has
  exact ⟨⟨[some x],rfl,rfl⟩,hs i x ys _ hi (hx xs (hl _ _ _ (Nat.le_of_lt hi) p)) p⟩
theorem Ww (Pv:Nat→List V→Hp→Prop) (h0:Pv 0 [] (upd H1 acc (.lst []))) (hl:∀ i ys H,i≤xs.length→Pv i ys H→SqT K H a xs)
    (hs:∀ i x ys H,i < xs.length→xs[i]?=some x→Pv i ys H→tt (some x :: cs) H (Gb xs.length Pv acc i te (some x :: cs))) (hd:∀ ys H,Pv xs.length ys H→Q H):UE (Itt K a) 1 cs (Zo 0) tt te H1 acc Q:=by
  refine Q9 Pv h0 (fun ys H p=>⟨⟨xs,hl _ _ _ (Nat.le_refl _) p,Nat.le_refl _⟩,hd ys H p⟩) fun i ys H hi p=>⟨⟨xs,xs[i],hl _ _ _ (Nat.le_of_lt hi) p,List.getElem?_eq_getElem hi⟩,?_⟩
  rintro x H3 ⟨rfl,hx⟩ as has
  obtain ⟨a0,rfl⟩ : ∃ a0,as=[a0]:=List.length_eq_one_iff.mp has
  exact ⟨⟨[some x],rfl,rfl⟩,hs i x ys _ hi (hx xs (hl _ _ _ (Nat.le_of_lt hi) p)) p⟩
theorem ZJ {lo:Int} {n:Nat} (Pv:Nat→List V→Hp→Prop) (h0:Pv 0 [] (upd H1 acc (.lst [])))
    (hs:∀ i ys H,i < n→Pv i ys H→tt (some (.int (lo + i)) :: cs) H (Gb n Pv acc i te (some (.int (lo + i)) :: cs))) (hd:∀ ys H,Pv n ys H→Q H):UE (Itr lo n) 1 cs (Zo 0) tt te H1 acc Q:=by
  refine Q9 Pv h0 (fun ys H p=>⟨Nat.le_refl _,hd ys H p⟩) fun i ys H hi p=>⟨hi,?_⟩
  rintro x H3 ⟨rfl,rfl⟩ as has
  obtain ⟨a0,rfl⟩ : ∃ a0,as=[a0]:=List.length_eq_one_iff.mp has
  exact ⟨⟨[some _],rfl,rfl⟩,hs i ys _ hi p⟩
theorem Xn {as:St} (h:as.length=2):∃ a0 a1,as=[a0,a1]:=by
  match as,h with
  | [a0,a1],_=>exact ⟨a0,a1,rfl⟩
theorem Xt (Pv:Nat→List V→Hp→Prop) (h0:Pv 0 [] (upd H1 acc (.lst []))) (hl:∀ i ys H,i≤xs.length→Pv i ys H→SqL K H a xs)
    (hs:∀ i x ys H,i < xs.length→xs[i]?=some x→Pv i ys H→∃ p u v,x=.ref p∧SqT K H p [u,v]∧tt (some u :: some v :: cs) H (Gb xs.length Pv acc i te (some u :: some v :: cs))) (hd:∀ ys H,Pv xs.length ys H→Q H):UE (Itl K a) 2 cs (Mu K 2 (YI (Zo 0) (YI (Zo 1) Lc))) tt te H1 acc Q:=by
  refine Q9 Pv h0 (fun ys H p=>⟨⟨xs,hl _ _ _ (Nat.le_refl _) p,Nat.le_refl _⟩,hd ys H p⟩) fun i ys H hi p=>⟨⟨xs,xs[i],hl _ _ _ (Nat.le_of_lt hi) p,List.getElem?_eq_getElem hi⟩,?_⟩
  rintro x H3 ⟨rfl,hx⟩ as has
  obtain ⟨a0,a1,rfl⟩:=Xn has
  obtain ⟨q,u,v,rfl,hq,h⟩:=hs i x ys _ hi (hx xs (hl _ _ _ (Nat.le_of_lt hi) p)) p
  exact ⟨q,[u,v],rfl,hq,rfl,u,[v],rfl,v,[],rfl,rfl,⟨[some u,some v],rfl,rfl⟩,h⟩
end
end L2
namespace L2
open PySem PySem.Spec PyProof.Rows
section
variable {κ:Type} [DecidableEq κ]
def valV (kvs:List (κ × V)) (k:κ):Option V:=(kvs.find? fun kv=>decide (kv.1=k)).map (·.2)
def putK (kvs:List (κ × V)) (k:κ) (v:V):List (κ × V) :=
  if (kvs.any fun kv=>decide (kv.1=k))=true then kvs.map (fun kv=>if kv.1=k then (kv.1,v) else kv) else kvs ++ [(k,v)]
theorem QR {p:κ × V} {r:List (κ × V)} {k:κ} (e:p.1=k):valV (p :: r) k=some p.2:=by simp [valV,List.find?_cons,e]
theorem QM {p:κ × V} {r:List (κ × V)} {k:κ} (e:¬ p.1=k):valV (p :: r) k=valV r k:=by simp [valV,List.find?_cons,e]
theorem Z0 (k:κ):∀ kvs:List (κ × V),(kvs.any fun kv=>decide (kv.1=k))=(valV kvs k).isSome
  | []=>rfl
  | p :: r=>by
    rw [List.any_cons]
    by_cases e:p.1=k
    · simp only [QR e,decide_eq_true e,Bool.true_or,Option.isSome_some]
    · rw [QM e,decide_eq_false e,Bool.false_or];exact Z0 k r
theorem We (k j:κ) (y:V):∀ kvs:List (κ × V),valV (kvs.map fun kv=>if kv.1=k then (kv.1,y) else kv) j=(valV kvs j).map fun x=>if j=k then y else x
  | []=>rfl
  | p :: r=>by
    have ih:=We k j y r
    rw [List.map_cons]
    by_cases h:p.1=k
    · rw [if_pos h]
      by_cases e:p.1=j
      · rw [QR (p:=(p.1,y)) e,QR e,Option.map_some,if_pos (e.symm.trans h)]
      · rw [QM (p:=(p.1,y)) e,QM e,ih]
    · rw [if_neg h]
      by_cases e:p.1=j
      · rw [QR (p:=p) e,QR e,Option.map_some,if_neg (fun z=>h (e.trans z))]
      · rw [QM (p:=p) e,QM e,ih]
theorem JH (k j:κ) (y:V):∀ kvs:List (κ × V),valV kvs k=none→valV (kvs ++ [(k,y)]) j=if j=k then some y else valV kvs j
  | [],_=>by
    by_cases e:k=j
    · rw [if_pos e.symm];exact QR (p:=(k,y)) e
    · rw [if_neg (fun z=>e z.symm)];exact QM (p:=(k,y)) e
  | p :: r,hn=>by
    rw [List.cons_append]
    have hk:¬ p.1=k:=fun z=>by rw [QR z] at hn;cases hn
    rw [QM hk] at hn
    have ih:=JH k j y r hn
    by_cases e:p.1=j
    · rw [QR e,QR e,if_neg (fun z=>hk (e.trans z))]
    · rw [QM e,QM e,ih]
theorem LC (kvs:List (κ × V)) (k j:κ) (y:V):valV (putK kvs k y) j=if j=k then some y else valV kvs j:=by
  unfold putK
  by_cases a:(kvs.any fun kv=>decide (kv.1=k))=true
  · rw [if_pos a,We]
    rw [Z0] at a
    by_cases e:j=k
    · obtain ⟨x,hx⟩:=Option.isSome_iff_exists.mp a
      rw [if_pos e,e,hx,Option.map_some,if_pos rfl]
    · rw [if_neg e]
      cases valV kvs j with
      | none=>rfl
      | some x=>rw [Option.map_some,if_neg e]
  · rw [if_neg a]
    refine JH k j y kvs ?_
    rw [Z0] at a
    cases q:valV kvs k with
    | none=>rfl
    | some x=>rw [q] at a;exact (a rfl).elim
theorem Z9 (kvs:List (κ × V)) (k:κ) (v:V):(putK kvs k v).length≤kvs.length + 1:=by
  unfold putK
  split
  · rw [List.length_map];omega
  · rw [List.length_append,List.length_cons,List.length_nil];omega
theorem Mg {kvs:List (κ × V)} {k:κ} (v:V) (h:valV kvs k=none):putK kvs k v=kvs ++ [(k,v)]:=by
  unfold putK
  rw [Z0,h]
  exact if_neg (by decide)
theorem RelO.isSome_eq {o:Option V} {u:Option Value} (r:RelO o u):o.isSome=u.isSome:=by
  cases o with
  | none=>cases u with
    | none=>rfl
    | some _=>exact (show False from r).elim
  | some _=>cases u with
    | none=>exact (show False from r).elim
    | some _=>rfl
theorem RelO.getD {o:Option V} {u:Option Value} {d:V} {d':Value} (r:RelO o u) (rd:RelV d d'):RelV (o.getD d) (u.getD d'):=by
  cases o with
  | none=>cases u with
    | none=>exact rd
    | some _=>exact (show False from r).elim
  | some _=>cases u with
    | none=>exact (show False from r).elim
    | some _=>exact r
theorem KV.val {kvs:List (κ × V)} {vs:List (κ × Value)} (r:KV kvs vs) (k:κ):RelO (valV kvs k) (valueAt vs k):=by
  unfold KV at r
  induction r with
  | nil=>exact True.intro
  | @cons p q ps qs h t ih =>
    obtain ⟨h1,h2⟩:=h
    by_cases e:p.1=k
    · have e':q.1=k:=h1.symm.trans e
      have b:valueAt (q :: qs) k=some q.2:=by simp [valueAt,List.find?_cons,e']
      rw [QR e,b];exact h2
    · have e':¬ q.1=k:=fun z=>e (h1.trans z)
      have b:valueAt (q :: qs) k=valueAt qs k:=by simp [valueAt,List.find?_cons,e']
      rw [QM e,b];exact ih
theorem KV.any {kvs:List (κ × V)} {vs:List (κ × Value)} (r:KV kvs vs) (k:κ):(kvs.any fun kv=>decide (kv.1=k))=vs.any fun kv=>decide (kv.1=k):=by
  unfold KV at r
  induction r with
  | nil=>rfl
  | cons h t ih=>rw [List.any_cons,List.any_cons,ih,h.1]
theorem KV.repl {kvs:List (κ × V)} {vs:List (κ × Value)} (r:KV kvs vs) (k:κ) {y:V} {u:Value} (ry:RelV y u) :
    KV (kvs.map fun kv=>if kv.1=k then (kv.1,y) else kv) (vs.map fun kv=>if kv.1=k then (kv.1,u) else kv):=by
  unfold KV at r ⊢
  induction r with
  | nil=>exact .nil
  | @cons p q ps qs h t ih =>
    rw [List.map_cons,List.map_cons]
    refine .cons ?_ ih
    obtain ⟨h1,h2⟩:=h
    by_cases e:p.1=k
    · rw [if_pos e,if_pos (h1.symm.trans e)];exact ⟨h1,ry⟩
    · rw [if_neg e,if_neg (fun z=>e (h1.trans z))];exact ⟨h1,h2⟩
theorem KV.put {kvs:List (κ × V)} {vs:List (κ × Value)} (r:KV kvs vs) (k:κ) {y:V} {u:Value} (ry:RelV y u):KV (putK kvs k y) (stored vs k u):=by
  unfold putK stored
  rw [r.any k]
  by_cases e:(vs.any fun kv=>decide (kv.1=k))=true
  · rw [if_pos e,if_pos e];exact r.repl k ry
  · rw [if_neg e,if_neg e];exact Paired.snoc r ⟨rfl,ry⟩
theorem KV.length {kvs:List (κ × V)} {vs:List (κ × Value)} (r:KV kvs vs):kvs.length=vs.length:=Paired.length r
end
theorem YT {P:Program} {w:World} {k:Key} {u:Value} (r:RelV (kV k) u):(Qt P w).is k u=true:=by
  cases k with
  | inl i=>obtain ⟨t,e⟩:=(show ∃ t,u=Value.int i t from r);subst e;exact Wd P w i t
  | inr x=>obtain ⟨t,e⟩:=(show ∃ t,u=Value.str x t from r);subst e;exact XV P w x t
theorem Jw {P:Program} {w:World}:∀ {ks:List Key} {us:List Value},Vals (ks.map kV) us→ItemsAre (Qt P w) ks us
  | [],_,r=>by rw [List.map_nil] at r;cases r;exact .nil
  | k :: ks,_,r=>by
    rw [List.map_cons] at r
    cases r with
    | cons h t=>exact .cons (YT h) (Jw t)
abbrev KT (H:Hp):List (List Key × V)→List (List Key × Addr × Value)→Prop:=Paired fun p q=>p.1=q.1∧H q.2.1=some (.tup (p.1.map kV))∧RelV p.2 q.2.2
theorem KT.val {H:Hp} {kvs:List (List Key × V)} {xs:List (List Key × Addr × Value)} (r:KT H kvs xs) (k:List Key):RelO (valV kvs k) ((atKey xs k).map (·.2)):=by
  induction r with
  | nil=>exact True.intro
  | @cons p q ps qs h t ih =>
    obtain ⟨h1,_,h2⟩:=h
    by_cases e:p.1=k
    · have e':q.1=k:=h1.symm.trans e
      have b:atKey (q :: qs) k=some q.2:=by simp [atKey,List.find?_cons,e']
      rw [QR e,b];exact h2
    · have e':¬ q.1=k:=fun z=>e (h1.trans z)
      have b:atKey (q :: qs) k=atKey qs k:=by simp [atKey,List.find?_cons,e']
      rw [QM e,b];exact ih
theorem KT.repl {H:Hp} {kvs:List (List Key × V)} {xs:List (List Key × Addr × Value)} (r:KT H kvs xs) (k:List Key) {y:V} {u:Value} (ry:RelV y u) :
    KT H (kvs.map fun kv=>if kv.1=k then (kv.1,y) else kv) (xs.map (putAt k u)):=by
  induction r with
  | nil=>exact .nil
  | @cons p q ps qs h t ih =>
    rw [List.map_cons,List.map_cons]
    refine .cons ?_ ih
    obtain ⟨h1,h2,h3⟩:=h
    unfold putAt
    by_cases e:p.1=k
    · rw [if_pos e,if_pos (h1.symm.trans e)];exact ⟨h1,h2,ry⟩
    · rw [if_neg e,if_neg (fun z=>e (h1.trans z))];exact ⟨h1,h2,h3⟩
theorem KT.put {H:Hp} {kvs:List (List Key × V)} {xs:List (List Key × Addr × Value)} (r:KT H kvs xs) (k:List Key) {b:Addr} {y:V} {u:Value} (hb:H b=some (.tup (k.map kV))) (ry:RelV y u) :
    KT H (putK kvs k y) (storedH xs k b u):=by
  have e:(kvs.any fun kv=>decide (kv.1=k))=(atKey xs k).isSome:=by
    rw [Z0,(r.val k).isSome_eq,Option.isSome_map]
  unfold putK storedH
  rw [e]
  by_cases q:(atKey xs k).isSome=true
  · rw [if_pos q,if_pos q];exact r.repl k ry
  · rw [if_neg q,if_neg q];exact Paired.snoc r ⟨rfl,hb,ry⟩
theorem KT.keeps {H H':Hp} {kvs:List (List Key × V)} {xs:List (List Key × Addr × Value)} (r:KT H kvs xs) (ht:∀ b ys,H b=some (.tup ys)→H' b=some (.tup ys)):KT H' kvs xs :=
  Paired.mapP r fun _ _ z=>⟨z.1,ht _ _ z.2.1,z.2.2⟩
section
variable {P:Program} {w:World} {H:Hp} {h:Heap} {a:Addr}
theorem NY {u:HO} (ok:HOk P w H h) (e:Rd H a u):ObjOk P w H h a u:=e.ok ok
theorem U7 {kvs:List (Key × V)} (ok:HOk P w H h) (e:Rd H a (.dK kvs)):kvs.length≤sizeLine∧(a == sysModules)=false∧∃ vs,KV kvs vs∧h.DictOf (Qt P w) a vs :=
  show ObjOk P w H h a (.dK kvs) from NY ok e
theorem JI {kvs:List (Key × V)} (ok:HOk P w H h) (e:H a=some (.dK kvs)):kvs.length≤sizeLine∧(a == sysModules)=false∧∃ vs,KV kvs vs∧h.DictOf (Qt P w) a vs:=U7 ok (.inl e)
theorem Y4 {ks:List Key} (ok:HOk P w H h) (e:H a=some (.tup (ks.map kV))):(tupleKind (Qt P w)).is h ks a:=by
  obtain ⟨_,its,r,o,h1,h2,n,h3⟩:=(show ObjOk P w H h a (.tup (ks.map kV)) from ok a _ e)
  exact ⟨o,its.toArray,n,h1,h2,h3,by simpa using Jw r⟩
theorem UM {kvs:List (List Key × V)} (ok:HOk P w H h) (e:Rd H a (.dT kvs)):kvs.length≤sizeLine∧(a == sysModules)=false ∧
    ∃ xs,KT H kvs xs∧h.DictOfH (tupleKind (Qt P w)) a xs:=by
  obtain ⟨z,y,xs,r,o,es,ep,h1,h2,h3,h4,h5⟩:=(show ObjOk P w H h a (.dT kvs) from NY ok e)
  refine ⟨z,y,xs,r,o,es,ep,h1,h2,h3,h4,fun x hx=>?_,h5⟩
  have all:∀ {l:List (List Key × V)} {m:List (List Key × Addr × Value)},KT H l m→∀ x ∈ m,(tupleKind (Qt P w)).is h x.1 x.2.1:=by
    intro l m q
    induction q with
    | nil=>intro x hx;exact nomatch hx
    | @cons p q ps qs hq t ih =>
      intro x hx
      rcases List.mem_cons.mp hx with e | hx
      · subst e
        exact Y4 ok (by rw [← hq.1];exact hq.2.1)
      · exact ih x hx
  exact all r x hx
theorem PP {kvs:List (List Key × V)} (ok:HOk P w H h) (e:H a=some (.dT kvs)):kvs.length≤sizeLine∧(a == sysModules)=false ∧
    ∃ xs,KT H kvs xs∧h.DictOfH (tupleKind (Qt P w)) a xs:=UM ok (.inl e)
end
def DGet (H:Hp) (a:Addr) (y:V) (r:Option V):Prop :=
  (∃ kvs k,Rd H a (.dK kvs)∧y=kV k∧r=valV kvs k)∨∃ kvs k b,Rd H a (.dT kvs)∧y=.ref b∧H b=some (.tup (k.map kV))∧r=valV kvs k
def OW (H:Hp) (a:Addr) (y v:V) (H':Hp):Prop :=
  (∃ kvs k,H a=some (.dK kvs)∧y=kV k∧kvs.length < sizeLine∧H'=upd H a (.dK (putK kvs k v))) ∨
  ∃ kvs k b,H a=some (.dT kvs)∧y=.ref b∧H b=some (.tup (k.map kV))∧kvs.length < sizeLine∧H'=upd H a (.dT (putK kvs k v))
theorem DGet.k {H:Hp} {a:Addr} {kvs:List (Key × V)} {k:Key} (e:H a=some (.dK kvs)):DGet H a (kV k) (valV kvs k):=.inl ⟨kvs,k,.inl e,rfl,rfl⟩
section
variable {X:Cx} {pins:List (Addr × Obj)} {σ:St} {H:Hp} {s:Shared} {a:Addr} {y v:V} {u r:Value} {o:Option V} {A:Around} {E:Value→Shared→Prop}
theorem Inv.big (I:Inv X pins σ H s):sysModules < s.heap.objs.size:=by
  have h:mainGlobals < s.heap.objs.size:=(I.mod.glob.keeps I.bk).lt
  exact Nat.lt_trans (by decide) h
theorem Gd {Q:Value→Shared→Prop} (hu:A.units + 1 < cLine) (I:Inv X pins σ H s) (g:DGet H a y (some v)) (ry:RelV y u) (h:∀ w' s',Inv X pins σ H s'→RelV v w'→Q w' s') :
    wpAny (model X.prog X.w) A (getItem (.ref a) u) Q E s:=by
  rcases g with ⟨kvs,k,e,ey,l⟩ | ⟨kvs,k,b,e,ey,eb,l⟩
  · subst ey
    obtain ⟨z,hd,vs,rel,dd⟩:=U7 I.hok e
    obtain ⟨w',hw,rw'⟩:=RelO.some_of (v:=v) (o:=valueAt vs k) (by rw [l];exact rel.val k)
    exact wpAny_getItem_of (YT ry) dd.mapOf hw (h w' _ (I.tok _) rw')
  · subst ey
    cases (show u=Value.ref b from ry)
    obtain ⟨z,hd,xs,rel,dd⟩:=UM I.hok e
    obtain ⟨w',hw,rw'⟩:=RelO.some_of (v:=v) (o:=(atKey xs k).map (·.2)) (by rw [l];exact rel.val k)
    obtain ⟨p,hp,hp2⟩:=Option.map_eq_some_iff.mp hw
    refine wpAny_getItem_heap (tupleKind_room_in1 hu) (Y4 I.hok eb) dd hp ?_
    rw [hp2]
    exact h w' _ (I.tok _) rw'
theorem Nq {Q:Value→Shared→Prop} (hu:A.units + 1 < cLine) (I:Inv X pins σ H s) (g:DGet H a y o) (ry:RelV y u) (h:∀ s',Inv X pins σ H s'→Q (.bool (!o.isSome)) s') :
    wpAny (model X.prog X.w) A (compareOp .NotIn u (.ref a)) Q E s:=by
  rcases g with ⟨kvs,k,e,ey,l⟩ | ⟨kvs,k,b,e,ey,eb,l⟩
  · subst ey
    obtain ⟨z,hd,vs,rel,dd⟩:=U7 I.hok e
    refine wpAny_notIn_of (YT ry) hd dd.mapOf ?_
    rw [← (rel.val k).isSome_eq,← l]
    exact h _ (I.tok _)
  · subst ey
    cases (show u=Value.ref b from ry)
    obtain ⟨z,hd,xs,rel,dd⟩:=UM I.hok e
    refine wpAny_notIn_heap (tupleKind_room_in1 hu) (Y4 I.hok eb) hd dd ?_
    have q:=(rel.val k).isSome_eq
    rw [Option.isSome_map] at q
    rw [← q,← l]
    exact h _ (I.tok _)
theorem J1 {h':Heap} {t':Nat} {ob:HO} (I:Inv X pins σ H s) (mu:Mut (H a)) (hs:Heap.SameBut a s.heap h') (he:∃ q,h'.get? a=some q) (new:ObjOk X.prog X.w (upd H a ob) h' a ob) :
    Inv X pins σ (upd H a ob) { s with heap:=h',toks:=t' } :=
  I.write (x:=a) (e:=a) mu (.inl rfl) (fun b q hb z=>(hs.2 b hb).trans z) he new
theorem XB {P:Program} {w:World} {H':Hp} {h':Heap} {kvs:List (Key × V)} {vs:List (Key × Value)} (z:kvs.length≤sizeLine) (hd:(a == sysModules)=false) (rel:KV kvs vs) (dd:h'.DictOf (Qt P w) a vs) :
    ObjOk P w H' h' a (.dK kvs):=⟨z,hd,vs,rel,dd⟩
theorem Gs {H':Hp} {Q:Unit→Shared→Prop} (hu:A.units + 1 < cLine) (I:Inv X pins σ H s) (g:OW H a y v H') (ry:RelV y u) (rv:RelV v r) (h:∀ s',Inv X pins σ H' s'→Q () s') :
    wpAny (model X.prog X.w) A (setItem (.ref a) u r) Q E s:=by
  rcases g with ⟨kvs,k,e,ey,l,eH⟩ | ⟨kvs,k,b,e,ey,eb,l,eH⟩
  · subst ey eH
    obtain ⟨z,hd,vs,rel,dd⟩:=JI I.hok e
    have hz:vs.length≤sizeLine:=by rw [← rel.length];exact z
    have hl:(putK kvs k v).length≤sizeLine:=by have:=Z9 kvs k v;omega
    refine wpAny_setItem_pairs (hsz:=hz) (YT ry) dd fun h' dd' hs=>h _ ?_
    have he:∃ q,h'.get? a=some q:=let ⟨q,_,_,hq,_⟩:=dd';⟨q,hq⟩
    exact J1 I (by rw [e];exact True.intro) hs he (XB hl hd (rel.put k rv) dd')
  · subst ey eH
    cases (show u=Value.ref b from ry)
    obtain ⟨z,hd,xs,rel,dd⟩:=PP I.hok e
    have hz:xs.length≤sizeLine:=by rw [← Paired.length rel];exact z
    have hl:(putK kvs k v).length≤sizeLine:=by have:=Z9 kvs k v;omega
    refine wpAny_setItem_heap (hsz:=hz) (tupleKind_room_in1 hu) (Y4 I.hok eb) dd fun h' dd' hs=>h _ ?_
    obtain ⟨q,es,ep,hq,h2,h3,h4,_,h5⟩:=dd'
    refine J1 I (by rw [e];exact True.intro) hs ⟨q,hq⟩ ⟨hl,hd,_,(rel.put k eb rv).keeps fun c ys ec=>?_,q,es,ep,hq,h2,h3,h4,h5⟩
    rw [Qg (QK ec e (fun z=>nomatch z))]
    exact ec
end
section
variable {X:Cx} {pins:List (Addr × Obj)} {σ:St} {H:Hp} {s:Shared} {a:Addr} {kvs:List (Key × V)} {k:Key} {u:Value} {A:Around} {E:Value→Shared→Prop}
end
def O4 (i:Expr):Prop:=∀ ov iv,subscripted i false ov iv=operate [ov,iv] (getItem ov iv)
theorem MH {prog:Program} {w:World} {A:Around} {E:Value→Shared→Prop} {s:Shared} {env:Env} {value slice:Expr} {pos:Pos} {T id:String} {Q:Value→Shared→Prop}
    (hl:typeLookup (.type T) "__getitem__" = pure (some (.builtin id))) (hs:O4 slice)
    (h:wpAny (model prog w) A (eval value env) (fun o s₁=>wpAny (model prog w) A (eval slice env) (fun i s₂=>s₂.TypeIs o T∧wpAny (model prog w) A (getItem o i) Q E s₂) E s₁) E s) :
    wpAny (model prog w) A (eval (.Subscript value slice pos) env) Q E s:=by
  refine Subscript_ (wpAny_mono h (fun o s₁ h₁=>wpAny_mono h₁ (fun i s₂ h₂=>?_) fun _ _ x=>x) fun _ _ x=>x)
  obtain ⟨hT,h₂⟩:=h₂
  unfold subscriptTail
  refine wpAny_bind ?_
  rw [getitemInPython_of_ne hT.not_modules]
  refine wpAny_bind (wpAny_specialOf hT hl ?_)
  have fin:wpAny (model prog w) A (subscripted slice false o i) (fun r s₃=>wpAny (model prog w) A (letTemporaryGo value o r >>= fun _=>pure r) Q E s₃) E s₂:=by
    rw [hs o i]
    exact wpAny_operating (wpAny_mono h₂ (fun r s₃ h₃=>wpAny_bind (wpAny_letTemporaryGo (wpAny_pure h₃))) fun _ _ x=>x)
  first
    | exact wpAny_pure (wpAny_bind fin)
    | exact wpAny_bind (wpAny_pure (wpAny_bind fin))
    | exact wpAny_bind fin
theorem XM {X:Cx} {pins:List (Addr × Obj)} {σ:St} {H:Hp} {s:Shared} {a:Addr} {y:V} {o:Option V} (I:Inv X pins σ H s) (g:DGet H a y o):s.TypeIs (.ref a) "dict" := by
  rcases g with ⟨kvs,k,e,_,_⟩ | ⟨kvs,k,b,e,_,_,_⟩
  · obtain ⟨_,_,vs,_,dd⟩:=U7 I.hok e
    exact dd.typeIs
  · obtain ⟨_,_,xs,_,dd⟩:=UM I.hok e
    exact dd.typeIs
def Pn (td ty:TE):TE:=fun σ H Q=>td σ H fun x H1=>ty σ H1 fun y H2=>∃ a v,x=.ref a∧DGet H2 a y (some v)∧Q v H2
def M3 (ty td:TE):TE:=fun σ H Q=>ty σ H fun y H1=>td σ H1 fun x H2=>∃ a o,x=.ref a∧DGet H2 a y o∧Q (.bl (!o.isSome)) H2
def Pp (td ty tv:TE):TS:=fun D σ H=>tv σ H fun v H1=>td σ H1 fun x H2=>ty σ H2 fun y H3=>∃ a H4,x=.ref a∧OW H3 a y v H4∧D.nx σ H4
section
variable {X:Cx} {o i e value:Expr} {pos pos' tpos:Pos} {td ty tv:TE}
theorem Zy (hu:X.A.units + 1 < cLine) (ho:PE X o td) (hi:PE X i ty) (hs:O4 i):PE X (.Subscript o i pos) (Pn td ty):=by
  intro pins s σ H Q I h
  refine MH PySem.F.slot_dict_getitem.lookup hs (thn (ho pins s σ H _ I h) fun u s1 ⟨x,H1,I1,rx,q1⟩=>thn (hi pins s1 σ H1 _ I1 q1) fun iv s2 ⟨y,H2,I2,ry,a,v,ex,g,q2⟩=>?_)
  subst ex
  obtain rfl:u=Value.ref a:=rx
  exact ⟨XM I2 g,Gd hu I2 g ry fun w' s3 I3 rw'=>⟨v,H2,I3,rw',q2⟩⟩
theorem VL (hu:X.A.units + 1 < cLine) (hi:PE X i ty) (ho:PE X o td):PC X .NotIn i o (M3 ty td):=by
  intro pins s σ H Q I h
  refine thn (hi pins s σ H _ I h) fun iv s1 ⟨y,H1,I1,ry,q1⟩=>thn (ho pins s1 σ H1 _ I1 q1) fun u s2 ⟨x,H2,I2,rx,a,ov,ex,g,q2⟩=>?_
  subst ex
  obtain rfl:u=Value.ref a:=rx
  exact Nq hu I2 g ry fun s3 I3=>⟨.bl (!ov.isSome),H2,I3,rfl,q2⟩
theorem Vf (hu:X.A.units + 1 < cLine) (ho:PE X o td) (hi:PE X i ty) (hv:PE X value tv) (hs:swapsWith value (some (.Subscript o i pos')) pos.line X.env=pure false) :
    PS X (.Assign [.Subscript o i pos'] value pos) (Pp td ty tv):=by
  intro pins s σ H D I h
  refine wpAny_Assign_Subscript (thn (hv pins s σ H _ I h) fun r s1 ⟨v,H1,I1,rv,q1⟩=>thn (ho pins s1 σ H1 _ I1 q1) fun u s2 ⟨x,H2,I2,rx,q2⟩=>thn (hi pins s2 σ H2 _ I2 q2) fun iv s3 ⟨y,H3,I3,ry,a,H4,ex,g,q3⟩=>?_) hs
  subst ex
  obtain rfl:u=Value.ref a:=rx
  exact Gs hu I3 g ry rv fun s4 I4=>⟨σ,H4,I4,q3⟩
end
theorem XD {P:Program} {w:World} {H:Hp} (h:Heap) (hb:sysModules < h.objs.size):ObjOk P w H (h.push { cls:=.type "dict", data:=.dict #[] }) h.objs.size (.dK []) :=
  ⟨Nat.zero_le _,beq_eq_false_iff_ne.mpr (Ne.symm (Nat.ne_of_lt hb)),[],.nil,Heap.DictOf.new h⟩
def Wu:TE:=fun _ H Q=>∀ p,H p=none→Q (.ref p) (upd H p (.dK []))
section
variable {X:Cx} {pos:Pos}
theorem Wk:PE X (.Dict [] [] pos) Wu:=fun pins s σ H Q I h =>
  wpAny_Dict_empty ⟨.ref s.heap.objs.size,_,I.laid (a:=s.heap.objs.size) (o:=.dK []) (t':=s.toks) (fun _ _ q=>Heap.get?_push_of_some _ q) (Nat.le_refl _) (XD s.heap I.big),rfl,h _ (I.hok.fresh (Nat.le_refl _))⟩
end
def Wv:List (TE × TE)→St→Hp→(List (V × V)→Hp→Prop)→Prop
  | [],_,H,Q=>Q [] H
  | (tk,tv) :: r,σ,H,Q=>tk σ H fun x H1=>tv σ H1 fun y H2=>Wv r σ H2 fun ps H3=>Q ((x,y) :: ps) H3
abbrev VV:List (V × V)→List (Value × Value)→Prop:=Paired fun p q=>RelV p.1 q.1∧RelV p.2 q.2
def PPs (X:Cx) (pos:Pos) (keys:List (Option Expr)) (values:List Expr) (trs:List (TE × TE)):Prop :=
  ∀ (pins:List (Addr × Obj)) (s:Shared) (σ:St) (H:Hp) (Q:List (V × V)→Hp→Prop),Inv X pins σ H s→Wv trs σ H Q →
    wpAny (model X.prog X.w) X.A (evalPairs (pairTrees keys values X.env pos)) (fun vs s'=>∃ ps H',Inv X pins σ H' s'∧VV ps vs∧Q ps H') X.xe s
theorem Nl {X:Cx} {pos:Pos}:PPs X pos [] [] []:=fun pins s σ H Q I h=>pairTrees_nil_walk ⟨[],H,I,.nil,h⟩
theorem Lb {X:Cx} {pos:Pos} {k v:Expr} {ks:List (Option Expr)} {vs:List Expr} {tk tv:TE} {trs:List (TE × TE)} (hk:PE X k tk) (hv:PE X v tv) (hr:PPs X pos ks vs trs) :
    PPs X pos (some k :: ks) (v :: vs) ((tk,tv) :: trs):=fun pins s σ H Q I h =>
  pairTrees_cons_walk (thn (hk pins s σ H _ I h) fun u s1 ⟨x,H1,I1,rx,q1⟩=>thn (hv pins s1 σ H1 _ I1 q1) fun w2 s2 ⟨y,H2,I2,ry,q2⟩ =>
    thn (hr pins s2 σ H2 _ I2 q2) fun ws s3 ⟨ps,H3,I3,rel,q3⟩=>⟨(x,y) :: ps,H3,I3,.cons ⟨rx,ry⟩ rel,q3⟩)
def Y9 (kvs more:List (Key × V)):List (Key × V):=more.foldl (fun acc kv=>putK acc kv.1 kv.2) kvs
theorem KV.merge:∀ {more:List (Key × V)} {rs:List (Key × Value)} {kvs:List (Key × V)} {vs:List (Key × Value)},KV more rs→KV kvs vs→KV (Y9 kvs more) (merged vs rs):=by
  intro more rs kvs vs r
  unfold KV at r
  induction r generalizing kvs vs with
  | nil=>intro q;exact q
  | @cons p q ps qs h t ih =>
    intro r0
    have e:KV (putK kvs p.1 p.2) (stored vs q.1 q.2):=by
      have:=r0.put p.1 h.2
      rw [← h.1];exact this
    exact ih e
theorem Yq:∀ (more kvs:List (Key × V)),(Y9 kvs more).length≤kvs.length + more.length
  | [],kvs=>by show kvs.length≤kvs.length + 0;omega
  | p :: r,kvs=>by
    have h1:=Yq r (putK kvs p.1 p.2)
    have h2:=Z9 kvs p.1 p.2
    show (Y9 (putK kvs p.1 p.2) r).length≤_
    rw [List.length_cons];omega
theorem UQ {P:Program} {w:World}:∀ {kvs:List (Key × V)} {ws:List (Value × Value)},VV (kvs.map fun kv=>(kV kv.1,kv.2)) ws→∃ rs,Carries (Qt P w) ws rs∧KV kvs rs
  | [],_,r=>by rw [List.map_nil] at r;cases r;exact ⟨[],True.intro,.nil⟩
  | p :: kvs,_,r=>by
    rw [List.map_cons] at r
    cases r with
    | @cons a b as bs h t =>
      obtain ⟨rs,c,q⟩:=UQ (P:=P) (w:=w) t
      obtain ⟨b1,b2⟩:=b
      exact ⟨(p.1,b2) :: rs,⟨YT h.1,rfl,c⟩,.cons ⟨rfl,h.2⟩ q⟩
def O7 (trs:List (TE × TE)):TE:=fun σ H Q=>∀ p,H p=none→Wv trs σ (upd H p (.dK [])) fun ps H2=>H2 p=some (.dK [])∧∃ kvs:List (Key × V),ps=kvs.map (fun kv=>(kV kv.1,kv.2))∧kvs.length≤15∧Q (.ref p) (upd H2 p (.dK (Y9 [] kvs)))
theorem M7 {X:Cx} {pos:Pos} {keys:List (Option Expr)} {values:List Expr} {trs:List (TE × TE)} (h:PPs X pos keys values trs) (hall:keys.all (·.isSome)=true) (hl:keys.length=values.length) (h0:keys≠[])
    (h15:keys.length≤15):PE X (.Dict keys values pos) (O7 trs):=by
  intro pins s σ H Q I q
  have hn:=I.hok.fresh (Nat.le_refl s.heap.objs.size)
  have I1:=I.laid (a:=s.heap.objs.size) (o:=.dK []) (h':=s.heap.push { cls:=.type "dict", data:=.dict #[] }) (t':=s.toks) (fun _ _ q=>Heap.get?_push_of_some _ q) (Nat.le_refl _) (XD s.heap I.big)
  refine wpAny_Dict_walk (knd:=Qt X.prog X.w) hall hl h0 h15 (thn (h pins _ σ _ _ I1 (q _ hn)) fun ws s2 ⟨ps,H2,I2,rel,e,kvs,ep,lk,q2⟩=>?_)
  subst ep
  obtain ⟨rs,c,rk⟩:=UQ (P:=X.prog) (w:=X.w) rel
  obtain ⟨z,hd,vs0,r0,dd⟩:=JI I2.hok e
  cases r0
  refine ⟨rs,c,dd,fun h' dd' hs=>⟨.ref s.heap.objs.size,_,?_,rfl,q2⟩⟩
  have hz:(Y9 [] kvs).length≤sizeLine:=by
    have h1:=Yq kvs []
    rw [List.length_nil] at h1
    rw [sizeLine_eq];omega
  have he:∃ q,h'.get? s.heap.objs.size=some q:=let ⟨q,_,_,hq,_⟩:=dd';⟨q,hq⟩
  exact J1 I2 (by rw [e];exact True.intro) hs he (XB hz hd (rk.merge .nil) dd')
structure M1 (X:Cx) (o:Expr) (m:Str) (apos:Pos) (e:Expr) (cpos:Pos):Prop where
  base:attributeBase o m X.env (eval o X.env)=eval o X.env
  few:((backTo cpos (starEach [e] X.env)).all (fun x=>!x.1) && (backToKw cpos (keywordEach [] X.env)).all (fun x=>x.1.isSome)
    && decide (([e]:List Expr).length + ([]:List Keyword).length + (if ([]:List Keyword).isEmpty then 0 else 1) < 30))=true
  line:(apos.endLine == cpos.line)=true
  trees:backTo cpos (starEach [e] X.env)=[(false,eval e X.env)]
structure M2 (X:Cx) (o:Expr) (m:Str) (apos:Pos) (e f:Expr) (cpos:Pos):Prop where
  base:attributeBase o m X.env (eval o X.env)=eval o X.env
  few:((backTo cpos (starEach [e,f] X.env)).all (fun x=>!x.1) && (backToKw cpos (keywordEach [] X.env)).all (fun x=>x.1.isSome)
    && decide (([e,f]:List Expr).length + ([]:List Keyword).length + (if ([]:List Keyword).isEmpty then 0 else 1) < 30))=true
  line:(apos.endLine == cpos.line)=true
  trees:backTo cpos (starEach [e,f] X.env)=[(false,eval e X.env),(false,eval f X.env)]
def IsD (H:Hp) (a:Addr):Prop:=(∃ kvs,Rd H a (.dK kvs))∨∃ kvs,Rd H a (.dT kvs)
theorem LM {X:Cx} {pins:List (Addr × Obj)} {σ:St} {H:Hp} {s:Shared} {a:Addr} (I:Inv X pins σ H s) (d:IsD H a) :
    s.TypeIs (.ref a) "dict" ∧ (∀ b,Value.ref a=.ref b→∃ ob,s.heap.get? b=some ob∧ob.dict=none)∧(a == sysModules)=false:=by
  rcases d with ⟨kvs,e⟩ | ⟨kvs,e⟩
  · obtain ⟨_,hd,vs,_,dd⟩:=U7 I.hok e
    refine ⟨dd.typeIs,fun b q=>?_,hd⟩
    cases q
    obtain ⟨ob,_,_,h1,h2,_⟩:=dd
    exact ⟨ob,h1,h2.2.1⟩
  · obtain ⟨_,hd,xs,_,dd⟩:=UM I.hok e
    refine ⟨dd.typeIs,fun b q=>?_,hd⟩
    cases q
    obtain ⟨ob,_,_,h1,h2,_⟩:=dd
    exact ⟨ob,h1,h2.2.1⟩
section
variable {X:Cx} {pins:List (Addr × Obj)} {σ:St} {H:Hp} {s:Shared} {a:Addr} {y d:V} {u r:Value} {o:Option V} {A:Around} {E:Value→Shared→Prop}
theorem Ox {Q:Value→Shared→Prop} (hu:A.units + 1 < cLine) (I:Inv X pins σ H s) (g:DGet H a y o) (ry:RelV y u) (h:∀ w' s',Inv X pins σ H s'→RelV (o.getD .non) w'→Q w' s') :
    wpAny (model X.prog X.w) A (call (.builtin "dict.get") [.ref a,u]) Q E s:=by
  rcases g with ⟨kvs,k,e,ey,l⟩ | ⟨kvs,k,b,e,ey,eb,l⟩
  · subst ey
    obtain ⟨z,hd,vs,rel,dd⟩:=U7 I.hok e
    refine call_meetsIn PySem.F.slot_dict_get dd.typeIs PySem.F.entry_dict_get (PySem.F.args_dict_get_2 _ _) (meets_dict_get (Qt X.prog X.w) a (YT ry) hd) ⟨_,dd.mapOf,h _ _ (I.tok _) ?_⟩
    rw [l]
    exact (rel.val k).getD rfl
  · subst ey
    cases (show u=Value.ref b from ry)
    obtain ⟨z,hd,xs,rel,dd⟩:=UM I.hok e
    refine call_meetsIn PySem.F.slot_dict_get dd.typeIs PySem.F.entry_dict_get (PySem.F.args_dict_get_2 _ _) (meetsH_dict_get (tupleKind (Qt X.prog X.w)) a b hd) ⟨tupleKind_room_in1 hu,k,xs,Y4 I.hok eb,dd,h _ _ (I.tok _) ?_⟩
    rw [l]
    exact (rel.val k).getD rfl
theorem OO {Q:Value→Shared→Prop} (hu:A.units + 1 < cLine) (I:Inv X pins σ H s) (g:DGet H a y o) (ry:RelV y u) (rd:RelV d r) (h:∀ w' s',Inv X pins σ H s'→RelV (o.getD d) w'→Q w' s') :
    wpAny (model X.prog X.w) A (call (.builtin "dict.get") [.ref a,u,r]) Q E s:=by
  rcases g with ⟨kvs,k,e,ey,l⟩ | ⟨kvs,k,b,e,ey,eb,l⟩
  · subst ey
    obtain ⟨z,hd,vs,rel,dd⟩:=U7 I.hok e
    refine call_meetsIn PySem.F.slot_dict_get dd.typeIs PySem.F.entry_dict_get (PySem.F.args_dict_get_3 _ _ _) (meets_dict_get_default (Qt X.prog X.w) a (YT ry) hd r) ⟨_,dd.mapOf,h _ _ (I.tok _) ?_⟩
    rw [l]
    exact (rel.val k).getD rd
  · subst ey
    cases (show u=Value.ref b from ry)
    obtain ⟨z,hd,xs,rel,dd⟩:=UM I.hok e
    refine call_meetsIn PySem.F.slot_dict_get dd.typeIs PySem.F.entry_dict_get (PySem.F.args_dict_get_3 _ _ _) (meetsH_dict_get_default (tupleKind (Qt X.prog X.w)) a b hd r) ⟨tupleKind_room_in1 hu,k,xs,Y4 I.hok eb,dd,h _ _ (I.tok _) ?_⟩
    rw [l]
    exact (rel.val k).getD rd
end
def N6 (td ty:TE):TE:=fun σ H Q=>td σ H fun x H1=>∃ a,x=.ref a∧IsD H1 a∧ty σ H1 fun y H2=>∃ o,DGet H2 a y o∧Q (o.getD .non) H2
def Ou (td ty tx:TE):TE:=fun σ H Q=>td σ H fun x H1=>∃ a,x=.ref a∧IsD H1 a∧ty σ H1 fun y H2=>tx σ H2 fun z H3=>∃ o,DGet H3 a y o∧Q (o.getD z) H3
section
variable {X:Cx} {o e f:Expr} {apos cpos:Pos} {td ty tx:TE}
theorem GY (hu:X.A.units + 1 < cLine) (ho:PE X o td) (he:PE X e ty) (m:M1 X o "get" apos e cpos):PE X (.Call (.Attribute o "get" apos) [e] [] cpos) (N6 td ty):=by
  intro pins s σ H Q I h
  refine wpAny_Call_method m.base m.few m.line PySem.F.plainAttrs_dict PySem.F.slot_dict_get PySem.F.type_dict_get (thn (ho pins s σ H _ I h) fun u s1 ⟨x,H1,I1,rx,a,ex,d,q1⟩=>?_)
  subst ex
  obtain rfl:u=Value.ref a:=rx
  obtain ⟨t1,t2,_⟩:=LM I1 d
  refine ⟨t1,t2,?_⟩
  rw [m.trees]
  refine Calls.callWith_builtin rfl (Calls.evalArgs_plain (Calls.spliced_cons (thn (he pins s1 σ H1 _ I1 q1) fun iv s2 ⟨y,H2,I2,ry,ov,g,q2⟩=>Calls.spliced_nil ?_)))
  exact Ox hu I2 g ry fun w' s3 I3 rw'=>⟨_,H2,I3,rw',q2⟩
theorem Lz (hu:X.A.units + 1 < cLine) (ho:PE X o td) (he:PE X e ty) (hf:PE X f tx) (m:M2 X o "get" apos e f cpos):PE X (.Call (.Attribute o "get" apos) [e,f] [] cpos) (Ou td ty tx):=by
  intro pins s σ H Q I h
  refine wpAny_Call_method m.base m.few m.line PySem.F.plainAttrs_dict PySem.F.slot_dict_get PySem.F.type_dict_get (thn (ho pins s σ H _ I h) fun u s1 ⟨x,H1,I1,rx,a,ex,d,q1⟩=>?_)
  subst ex
  obtain rfl:u=Value.ref a:=rx
  obtain ⟨t1,t2,_⟩:=LM I1 d
  refine ⟨t1,t2,?_⟩
  rw [m.trees]
  refine Calls.callWith_builtin rfl (Calls.evalArgs_plain (Calls.spliced_cons (thn (he pins s1 σ H1 _ I1 q1) fun iv s2 ⟨y,H2,I2,ry,q2⟩ =>
    Calls.spliced_cons (thn (hf pins s2 σ H2 _ I2 q2) fun fv s3 ⟨z,H3,I3,rz,ov,g,q3⟩=>Calls.spliced_nil ?_))))
  exact OO hu I3 g ry rz fun w' s4 I4 rw'=>⟨_,H3,I4,rw',q3⟩
end
section
variable {X:Cx} {pins:List (Addr × Obj)} {σ:St} {H:Hp} {s:Shared} {a:Addr} {kvs:List (Key × V)} {A:Around} {E:Value→Shared→Prop}
end
section
variable {X:Cx} {pins:List (Addr × Obj)} {σ:St} {H:Hp} {s:Shared} {a:Addr} {y:V} {u:Value} {A:Around} {E:Value→Shared→Prop}
end
end L2
namespace Srt
open PySem PySem.W PyProof.Rows
variable {α β:Type} {O:KeyOrd} {key:Nat→O.α} {n:Nat}
def Ok (O:KeyOrd) (key:Nat→O.α) (n:Nat) (Q:α→Prop):KasT α→Prop
  | .ret a=>Q a
  | .ask i j k=>i < n∧j < n∧Ok O key n Q (k (O.blt (key i) (key j)))
theorem Ok.bind {t:KasT α} {f:α→KasT β} {Q:β→Prop}:Ok O key n (fun a=>Ok O key n Q (f a)) t→Ok O key n Q (t.bind f):=by
  induction t with
  | ret a=>exact id
  | ask i j k ih=>exact fun h=>⟨h.1,h.2.1,ih _ h.2.2⟩
theorem Ok.wp {cmp:Nat→Nat→(Bool→Shared→Prop)→Shared→Prop} {s:Shared} (hc:∀ i j C,i < n→j < n→C (O.blt (key i) (key j)) s→cmp i j C s) {G:α→Shared→Prop} {Q:α→Prop} (hq:∀ a,Q a→G a s) {t:KasT α}:Ok O key n Q t→t.kasWp cmp G s:=by
  induction t with
  | ret a=>exact hq a
  | ask i j k ih=>exact fun h=>hc i j _ h.1 h.2.1 (ih _ h.2.2)
def Pm (n:Nat) (p:Array Nat):Prop:=p.toList.Perm (List.range n)
theorem Pm.size {p:Array Nat} (h:Pm n p):p.size=n:=by
  have:=h.length_eq
  simpa using this
theorem Pm.lt {p:Array Nat} (h:Pm n p) {i:Nat} (hi:i < n):p.getD i 0 < n:=by
  have hs:i < p.size:=by rw [h.size];exact hi
  have e:p.getD i 0=p[i]:=by simp [Array.getD,hs]
  rw [e]
  have:p[i] ∈ p.toList:=by simp
  exact List.mem_range.mp (h.mem_iff.mp this)
theorem Pm.of {p q:Array Nat} (h:Pm n p) (e:q.Perm p):Pm n q:=(Array.perm_iff_toList_perm.mp e).trans h
variable (key) in
def kk (p:Array Nat) (i:Nat):O.α:=key (p.getD i 0)
theorem Z6 {p q:Array Nat} {i j:Nat} (h:p[i]?=q[j]?):kk key p i=kk key q j:=by
  unfold kk
  rw [Array.getD_eq_getD_getElem?,Array.getD_eq_getD_getElem?,h]
variable (key) in
def Up (p:Array Nat) (k:Nat):Prop:=∀ i j,i≤j→j < k→O.kle (kk key p i) (kk key p j)
variable (key) in
def Gh (p:Array Nat) (k:Nat):Prop:=∀ i j,i≤j→j < k→O.kle (kk key p j) (kk key p i)
theorem WT {p:Array Nat} {i j:Nat} (hj:j≤p.size) (k:Nat):kk key (kas_rev p i j) k=if i≤k∧k < j then kk key p (i + j - 1 - k) else kk key p k:=by
  have e:=getElem?_mirror_all (xs:=p) (i:=i) hj k
  unfold kas_rev
  by_cases h:i≤k∧k < j
  · rw [if_pos h] at e ⊢;exact Z6 e
  · rw [if_neg h] at e ⊢;exact Z6 e
theorem UW {p:Array Nat} {i j:Nat} (hj:j≤p.size) (heq:∀ k,i≤k→k < j→kk key p k=kk key p (j - 1)) (k:Nat):kk key (kas_rev p i j) k=kk key p k:=by
  rw [WT hj]
  by_cases h:i≤k∧k < j
  · rw [if_pos h,heq _ (by omega) (by omega),heq k h.1 h.2]
  · rw [if_neg h]
theorem Pm.rev {p:Array Nat} (h:Pm n p) (i j:Nat):Pm n (kas_rev p i j):=h.of (mirror_perm _ _ _ _)
theorem No {p:Array Nat} {m:Nat} (h1:1≤m) (hs:Up key p m) (h:O.kle (kk key p (m - 1)) (kk key p m)):Up key p (m + 1):=fun i j hij hj=>by
  by_cases hjm:j < m
  · exact hs i j hij hjm
  · have:j=m:=by omega
    subst this
    by_cases hi:i=j
    · subst hi;exact KeyOrd.kle_refl _
    · exact KeyOrd.kle_trans (hs i (j - 1) (by omega) (by omega)) h
theorem Yh {p:Array Nat} {m:Nat} (h1:1≤m) (hs:Gh key p m) (h:O.kle (kk key p m) (kk key p (m - 1))):Gh key p (m + 1):=fun i j hij hj=>by
  by_cases hjm:j < m
  · exact hs i j hij hjm
  · have:j=m:=by omega
    subst this
    by_cases hi:i=j
    · subst hi;exact KeyOrd.kle_refl _
    · exact KeyOrd.kle_trans h (hs i (j - 1) (by omega) (by omega))
theorem W4 {p:Array Nat} (hP:Pm n p) {Q:Nat→Prop}:∀ (f m:Nat),1≤m→m + f≤n→Up key p m→(∀ m',m≤m'→m'≤m + f→Up key p m'→(m'=m + f∨O.klt (kk key p m') (kk key p (m' - 1)))→Q m')→Ok O key n Q (kas_asc p f m)
  | 0,m,_,_,hs,h=>h m (Nat.le_refl _) (Nat.le_refl _) hs (.inl rfl)
  | f + 1,m,h1,hn,hs,h=>by
    refine ⟨hP.lt (by omega),hP.lt (by omega),?_⟩
    show Ok O key n Q (if O.blt (kk key p m) (kk key p (m - 1))=true then .ret m else kas_asc p f (m + 1))
    cases hb:O.blt (kk key p m) (kk key p (m - 1)) with
    | true =>
      rw [if_pos rfl]
      exact h m (Nat.le_refl _) (by omega) hs (.inr hb)
    | false =>
      rw [if_neg Bool.false_ne_true]
      exact W4 hP f (m + 1) (by omega) (by omega) (No h1 hs hb) fun m' a b c d=>h m' (by omega) (by omega) c (by rcases d with d | d;exact .inl (by omega);exact .inr d)
variable (key) in
def ON (p:Array Nat) (m q:Nat):Prop:=q + 1≤m∧∀ i,m - (q + 1)≤i→i < m→kk key p i=kk key p (m - 1)
theorem Ur {Q:Array Nat × Nat × Nat→Prop}:∀ (f:Nat) (p:Array Nat) (m q:Nat),Pm n p→1≤m→m + f≤n→Gh key p m→ON key p m q →
    (∀ p' m' q',Pm n p'→m≤m'→m'≤m + f→Gh key p' m'→ON key p' m' q'→Q (p',m',q'))→Ok O key n Q (kas_desc f p m q)
  | 0,p,m,q,hP,_,_,hs,ht,h=>h p m q hP (Nat.le_refl _) (Nat.le_refl _) hs ht
  | f + 1,p,m,q,hP,h1,hn,hs,ht,h=>by
    have hsz:=hP.size
    refine ⟨hP.lt (by omega),hP.lt (by omega),?_⟩
    show Ok O key n Q (if O.blt (kk key p m) (kk key p (m - 1))=true then (if q > 0 then kas_desc f (kas_rev p (m - (q + 1)) m) (m + 1) 0 else kas_desc f p (m + 1) 0)
      else .ask (p.getD (m - 1) 0) (p.getD m 0) fun d=>if d=true then .ret (p,m,q) else kas_desc f p (m + 1) (q + 1))
    have one:∀ p':Array Nat,ON key p' (m + 1) 0:=fun p'=>⟨by omega,fun i a b=>by congr 1;omega⟩
    cases hb:O.blt (kk key p m) (kk key p (m - 1)) with
    | true =>
      rw [if_pos rfl]
      have hd:=Yh h1 hs (KeyOrd.kle_of_klt hb)
      by_cases hq:q > 0
      · rw [if_pos hq]
        have e:=UW (key:=key) (p:=p) (i:=m - (q + 1)) (j:=m) (by omega) ht.2
        refine Ur f _ (m + 1) 0 (hP.rev _ _) (by omega) (by omega) (fun i j a b=>by rw [e,e];exact hd i j a b) (one _) fun p' m' q' a b c d g=>h p' m' q' a (by omega) (by omega) d g
      · rw [if_neg hq]
        exact Ur f p (m + 1) 0 hP (by omega) (by omega) hd (one _) fun p' m' q' a b c d g=>h p' m' q' a (by omega) (by omega) d g
    | false =>
      rw [if_neg Bool.false_ne_true]
      refine ⟨hP.lt (by omega),hP.lt (by omega),?_⟩
      show Ok O key n Q (if O.blt (kk key p (m - 1)) (kk key p m)=true then .ret (p,m,q) else kas_desc f p (m + 1) (q + 1))
      cases hc:O.blt (kk key p (m - 1)) (kk key p m) with
      | true =>
        rw [if_pos rfl]
        exact h p m q hP (Nat.le_refl _) (by omega) hs ht
      | false =>
        rw [if_neg Bool.false_ne_true]
        have he:kk key p m=kk key p (m - 1):=KeyOrd.kle_antisymm hc hb
        refine Ur f p (m + 1) (q + 1) hP (by omega) (by omega) (Yh h1 hs hc) ⟨by have:=ht.1;omega,fun i a b=>?_⟩ fun p' m' q' a b c d g=>h p' m' q' a (by omega) (by omega) d g
        rw [Nat.add_sub_cancel]
        by_cases hi:i=m
        · rw [hi]
        · rw [he];exact ht.2 i (by omega) (by omega)
theorem Vs {p:Array Nat} {m:Nat} (hP:Pm n p) (h1:1≤m) (hm:m≤n) (hs:Gh key p m) {Q:Nat × Array Nat→Prop} (h:∀ m' p',Pm n p'→1≤m'→m'≤n→Up key p' m'→Q (m',p')):Ok O key n Q (kas_tail3 m n p):=by
  have hsz:=hP.size
  refine Ok.bind (W4 (hP.rev 0 m) (n - m) m h1 (by omega) (fun i j hij hj=>?_) fun m' a b c _=>h m' _ (hP.rev 0 m) (by omega) (by omega) c)
  rw [WT (by omega),WT (by omega),if_pos (by omega),if_pos (by omega)]
  exact hs _ _ (by omega) (by omega)
theorem Uf {p:Array Nat} {m:Nat} (hP:Pm n p) (h1:1≤m) (hm:m + 1≤n) (hs:Gh key p (m + 1)) {Q:Nat × Array Nat→Prop} (h:∀ m' p',Pm n p'→1≤m'→m'≤n→Up key p' m'→Q (m',p')):Ok O key n Q (kas_descPart m n p):=by
  refine Ok.bind (Ur (n - (m + 1)) p (m + 1) 0 hP (by omega) (by omega) hs ⟨by omega,fun i a b=>by congr 1;omega⟩ fun p' m' q' a b c d g=>?_)
  have hsz:=a.size
  show Ok O key n Q (if q' > 0 then kas_tail3 m' n (kas_rev p' (m' - (q' + 1)) m') else kas_tail3 m' n p')
  by_cases hq:q' > 0
  · rw [if_pos hq]
    have e:=UW (key:=key) (p:=p') (i:=m' - (q' + 1)) (j:=m') (by omega) g.2
    exact Vs (a.rev _ _) (by omega) (by omega) (fun i j x y=>by rw [e,e];exact d i j x y) h
  · rw [if_neg hq]
    exact Vs a (by omega) (by omega) d h
theorem Gy {p:Array Nat} (hP:Pm n p) (h1:1≤n) {Q:Nat × Array Nat→Prop} (h:∀ m' p',Pm n p'→1≤m'→m'≤n→Up key p' m'→Q (m',p')):Ok O key n Q (kas_count n p):=by
  have hsz:=hP.size
  refine Ok.bind (W4 hP (n - 1) 1 (Nat.le_refl _) (by omega) (fun i j a b=>?_) fun m a b c d=>?_)
  · have:i=j:=by omega
    subst this;exact KeyOrd.kle_refl _
  · show Ok O key n Q (if (m == n)=true then .ret (m,p) else if m > 1 then .ask (p.getD 0 0) (p.getD (m - 1) 0) fun c=>if c=true then .ret (m,p) else kas_descPart m n (kas_rev p 0 m) else kas_descPart m n p)
    by_cases hm:m=n
    · rw [if_pos (by simpa using hm)]
      exact h m p hP a (by omega) c
    · rw [if_neg (by simpa using hm)]
      have hlt:O.klt (kk key p m) (kk key p (m - 1)):=by
        rcases d with d | d
        · exact absurd (by omega) hm
        · exact d
      by_cases hg:m > 1
      · rw [if_pos hg]
        refine ⟨hP.lt (by omega),hP.lt (by omega),?_⟩
        show Ok O key n Q (if O.blt (kk key p 0) (kk key p (m - 1))=true then .ret (m,p) else kas_descPart m n (kas_rev p 0 m))
        cases hb:O.blt (kk key p 0) (kk key p (m - 1)) with
        | true =>
          rw [if_pos rfl]
          exact h m p hP a (by omega) c
        | false =>
          rw [if_neg Bool.false_ne_true]
          have hall:∀ k,0≤k→k < m→kk key p k=kk key p (m - 1):=fun k _ hk =>
            KeyOrd.kle_antisymm (c k (m - 1) (by omega) (by omega)) (KeyOrd.kle_trans hb (c 0 k (by omega) hk))
          have e:=UW (key:=key) (p:=p) (i:=0) (j:=m) (by omega) hall
          refine Uf (hP.rev _ _) (by omega) (by omega) (Yh (by omega) (fun i j x y=>?_) ?_) h
          · rw [e,e,hall i (by omega) (by omega),hall j (by omega) y];exact KeyOrd.kle_refl _
          · rw [e,e];exact KeyOrd.kle_of_klt hlt
      · rw [if_neg hg]
        have:m=1:=by omega
        subst this
        refine Uf hP (Nat.le_refl _) (by omega) (Yh (Nat.le_refl _) (fun i j x y=>?_) (KeyOrd.kle_of_klt hlt)) h
        have:i=j:=by omega
        subst this;exact KeyOrd.kle_refl _
theorem Jk {p:Array Nat} {k:Nat} (hP:Pm n p) (hk:k < n) (hs:Up key p k) {Q:Nat→Prop}
    (h:∀ l,l≤k→(∀ i,i < l→O.kle (kk key p i) (kk key p k))→(∀ i,l≤i→i < k→O.klt (kk key p k) (kk key p i))→Q l):∀ (f l r:Nat),l≤r→r≤k→r - l≤f →
      (∀ i,i < l→O.kle (kk key p i) (kk key p k))→(∀ i,r≤i→i < k→O.klt (kk key p k) (kk key p i))→Ok O key n Q (kas_place p k f l r)
  | 0,l,r,a,b,c,d,e=>by
    have:l=r:=by omega
    subst this
    exact h l b d e
  | f + 1,l,r,a,b,c,d,e=>by
    show Ok O key n Q (if l ≥ r then .ret l else .ask (p.getD k 0) (p.getD ((l + r) / 2) 0) fun c=>if c=true then kas_place p k f l ((l + r) / 2) else kas_place p k f ((l + r) / 2 + 1) r)
    by_cases hge:l ≥ r
    · rw [if_pos hge]
      have:l=r:=by omega
      subst this
      exact h l b d e
    · rw [if_neg hge]
      refine ⟨hP.lt hk,hP.lt (by omega),?_⟩
      show Ok O key n Q (if O.blt (kk key p k) (kk key p ((l + r) / 2))=true then kas_place p k f l ((l + r) / 2) else kas_place p k f ((l + r) / 2 + 1) r)
      cases hb:O.blt (kk key p k) (kk key p ((l + r) / 2)) with
      | true =>
        rw [if_pos rfl]
        exact Jk hP hk hs h f l ((l + r) / 2) (by omega) (by omega) (by omega) d fun i x y=>KeyOrd.klt_of_klt_of_kle hb (hs _ _ x y)
      | false =>
        rw [if_neg Bool.false_ne_true]
        exact Jk hP hk hs h f ((l + r) / 2 + 1) r (by omega) b (by omega) (fun i x=>KeyOrd.kle_trans (hs i ((l + r) / 2) (by omega) (by omega)) hb) e
theorem JF {p:Array Nat} {k d:Nat} (hs:k < p.size) (hd:d≤k) (i:Nat):kk key (bubble p k d) i=if i=k - d then kk key p k else if k - d < i∧i≤k then kk key p (i - 1) else kk key p i:=by
  have e:=getElem?_bubble hs d hd i
  by_cases h1:i=k - d
  · rw [if_pos h1] at e ⊢;exact Z6 e
  · rw [if_neg h1] at e ⊢
    by_cases h2:k - d < i∧i≤k
    · rw [if_pos h2] at e ⊢;exact Z6 e
    · rw [if_neg h2] at e ⊢;exact Z6 e
theorem Lj {Q:Array Nat→Prop}:∀ (f:Nat) (p:Array Nat) (k:Nat),Pm n p→1≤k→k + f=n→Up key p k→(∀ p',Pm n p'→Up key p' n→Q p')→Ok O key n Q (kas_bin f p k)
  | 0,p,k,hP,_,hn,hs,h=>h p hP (by rw [← hn];exact hs)
  | f + 1,p,k,hP,h1,hn,hs,h=>by
    have hsz:=hP.size
    have hk:k < n:=by omega
    refine Ok.bind (Jk hP hk hs (fun l a b c=>?_) k 0 k (Nat.zero_le _) (Nat.le_refl _) (by omega) (fun i x=>by omega) fun i x y=>by omega)
    refine Lj f _ (k + 1) (hP.of (bubble_perm _ _ _)) (by omega) (by omega) (fun i j hij hj=>?_) h
    rw [JF (by omega) (by omega),JF (by omega) (by omega),show k - (k - l)=l by omega]
    repeat' split
    all_goals first
      | (exfalso;omega)
      | exact KeyOrd.kle_refl _
      | exact b _ (by omega)
      | exact KeyOrd.kle_of_klt (c _ (by omega) (by omega))
      | exact hs _ _ (by omega) (by omega)
theorem sort_ok (h1:1≤n) {Q:Array Nat→Prop} (h:∀ p,Pm n p→Up key p n→Q p):Ok O key n Q (kas_sort n):=by
  have hP:Pm n (List.toArray (List.range n)):=List.Perm.refl _
  refine Ok.bind (Gy hP h1 fun m p a b c d=>?_)
  show Ok O key n Q (if m < n then kas_bin (n - max m 1) p (max m 1) else .ret p)
  have hm:max m 1=m:=by omega
  by_cases hlt:m < n
  · rw [if_pos hlt,hm]
    exact Lj (n - m) p m a b (by omega) d h
  · rw [if_neg hlt]
    have:m=n:=by omega
    subst this
    exact h p a d
end Srt
namespace L2
open PySem PySem.Spec PyProof.Rows PySem.W
section
variable {prog:Program} {w:World} {A:Around} {E:Value→Shared→Prop} {s:Shared}
end
section
variable {X:Cx}
end
end L2
namespace L2
open PySem PySem.Spec PyProof.Rows PySem.W
section
variable {prog:Program} {w:World} {A:Around} {E:Value→Shared→Prop} {s:Shared}
theorem Mk {a:Addr} {vs:List Value} {n:Nat} {P:PySem.Fin→Shared→Prop} (O:KeyOrd) (key:Nat→O.α) (κ:SortKind) (ho:s.heap.get? a=some (seqObj "list" vs.toArray n)) (h64:vs.length < 64)
    (hk:∀ (s':Shared) (Q:SortKind→Shared→Prop),(∀ b o,b≠a→s.heap.get? b=some o→s'.heap.get? b=some o)→2≤vs.length→Q κ s'→wpAny (model prog w) A (keyKind' vs.toArray) Q E s')
    (hc:∀ (s':Shared) (i j:Nat) (C:Bool→Shared→Prop),(∀ b o,b≠a→s.heap.get? b=some o→s'.heap.get? b=some o)→i < vs.length→j < vs.length→C (O.blt (key i) (key j)) s'→wpAny (model prog w) A (keyLt' κ (vs.getD i Value.none) (vs.getD j Value.none)) C (fun _ _=>False) s')
    (h:∀ p:Array Nat,Srt.Pm vs.length p→Srt.Up (O:=O) key p vs.length→P (.done (.ret .none)) { s with heap:=sortedHeap s.heap a vs (p.toList.map fun i=>vs.getD i Value.none).toArray }) :
    wpAny (model prog w) A (Builtin.«list.sort» ⟨[.ref a],[]⟩) P E s:=by
  have hal:a < s.heap.objs.size:=Heap.lt_size ho
  rw [list_sort_plain]
  refine wpAny_bind (listItems_at ho rfl ?_)
  refine wpAny_bind (listUpdate_at ho rfl ?_ (by rw [List.size_toArray,sizeLine_eq];omega) (Nat.zero_le _))
  obtain ⟨e1,ho1⟩ : ∃ e1,(s.heap.update a (Obj.mapSeq fun _=>(#[]:Array Value))).get? a=some (seqObj "list" #[] e1):=⟨_,get?_update_seq ho fun _=>#[]⟩
  refine wpAny_bind (seqEpoch_at ho1 rfl (wpAny_bind (wpAny_newTuple ?_ (by show vs.length≤_;rw [sizeLine_eq];omega))))
  refine wpAny_bind (wpAny_newList (wpAny_holding ?_) (Nat.zero_le _))
  have keep:∀ b o,b≠a→s.heap.get? b=some o→(((s.heap.update a (Obj.mapSeq fun _=>(#[]:Array Value))).push (seqObj "tuple" vs.toArray 0)).push (seqObj "list" #[] 0)).get? b=some o:=fun b o hb e =>
    Heap.get?_push_of_some _ (Heap.get?_push_of_some _ ((Heap.get?_update_ne _ _ _ _ hb).trans e))
  have ho6:(((s.heap.update a (Obj.mapSeq fun _=>(#[]:Array Value))).push (seqObj "tuple" vs.toArray 0)).push (seqObj "list" #[] 0)).get? a=some (seqObj "list" #[] e1):=Heap.get?_push_of_some _ (Heap.get?_push_of_some _ ho1)
  show wpAny (model prog w) A _ P E { s with heap:=((s.heap.update a (Obj.mapSeq fun _=>(#[]:Array Value))).push (seqObj "tuple" vs.toArray 0)).push (seqObj "list" #[] 0) }
  dsimp only
  have hz:vs.toArray.size=vs.length:=List.size_toArray
  by_cases h2:vs.toArray.size < 2
  · rw [if_pos h2,if_pos h2]
    refine wpAny_bind (wpAny_pure ?_)
    rw [StateT.run_pure]
    refine wpAny_bind (wpAny_pure ?_)
    dsimp only
    refine wpAny_bind (seqEpoch_at ho6 rfl ?_)
    have e2:(arrOf (SortSt.mk' general' (vs.toArray.zip vs.toArray) #[] 7 none)).map (·.2)=vs.toArray:=by
      show (vs.toArray.zip vs.toArray).map (·.2)=vs.toArray
      apply Array.toList_inj.mp
      rw [Array.toList_map,Array.toList_zip]
      exact List.map_snd_zip (Nat.le_refl _)
    rw [e2]
    refine wpAny_bind (listUpdate_at ho6 rfl ?_ (hsz2:=by show vs.toArray.size≤_;rw [sizeLine_eq];omega))
    simp only [bne_self_eq_false,Bool.false_eq_true,if_false]
    have:=h (List.range vs.length).toArray (List.Perm.refl _) (fun i j hij hj=>by
      have:i=j:=by omega
      subst this
      exact O.irrefl _)
    have e3:((List.range vs.length).toArray.toList.map fun i=>vs.getD i Value.none)=vs:=by
      apply List.ext_getElem (by simp)
      intro i a b
      simp at a
      simp [a]
    rw [e3] at this
    exact wpAny_pure this
  · rw [if_neg h2,if_neg h2]
    refine wpAny_bind ?_
    refine hk { s with heap:=((s.heap.update a (Obj.mapSeq fun _=>(#[]:Array Value))).push (seqObj "tuple" vs.toArray 0)).push (seqObj "list" #[] 0) } _ keep (by omega) ?_
    refine wpAny_bind (wpAny_mono (kat_run (Q:=fun st' s'=>∃ p:Array Nat,Srt.Pm vs.length p∧Srt.Up (O:=O) key p vs.length∧(arrOf st').map (·.2)=(p.toList.map fun i=>vs.getD i Value.none).toArray∧failedOf st'=none ∧
        s'={ s with heap:=((s.heap.update a (Obj.mapSeq fun _=>(#[]:Array Value))).push (seqObj "tuple" vs.toArray 0)).push (seqObj "list" #[] 0) })
      (G:=fun p s'=>Srt.Pm vs.length p∧Srt.Up (O:=O) key p vs.length∧s'={ s with heap:=((s.heap.update a (Obj.mapSeq fun _=>(#[]:Array Value))).push (seqObj "tuple" vs.toArray 0)).push (seqObj "list" #[] 0) })
      (vs:=vs) (ks:=vs) rfl (by omega) (by omega) (fun p st' s' hsz har hfl hg=>?_) ?_) (fun r s' hq=>?_) fun _ _ e=>e)
    · obtain ⟨hP,hU,es⟩:=hg
      exact ⟨p,hP,hU,kat_snds rfl har,hfl,es⟩
    · refine Srt.Ok.wp (O:=O) (key:=key) (n:=vs.length) (fun i j C hi hj hC=>?_) (Q:=fun p=>Srt.Pm vs.length p∧Srt.Up (O:=O) key p vs.length) (fun p hp=>⟨hp.1,hp.2,rfl⟩) (Srt.sort_ok (by omega) fun p a b=>⟨a,b⟩)
      exact hc { s with heap:=((s.heap.update a (Obj.mapSeq fun _=>(#[]:Array Value))).push (seqObj "tuple" vs.toArray 0)).push (seqObj "list" #[] 0) } i j C keep hi hj hC
    · obtain ⟨p,o1,o2,o3,o4,rfl⟩:=hq
      obtain ⟨⟨⟩,st'⟩:=r
      dsimp only at o3 o4 ⊢
      refine wpAny_bind (seqEpoch_at ho6 rfl ?_)
      rw [o3]
      refine wpAny_bind (listUpdate_at ho6 rfl ?_ (hsz2:=by show (p.toList.map fun i=>vs.getD i Value.none).toArray.size≤_;rw [List.size_toArray,List.length_map,o1.length_eq,List.length_range,sizeLine_eq];omega))
      rw [o4]
      simp only [bne_self_eq_false,Bool.false_eq_true,if_false]
      exact wpAny_pure (h p o1 o2)
theorem W5 {l:Addr} {vs:List Value} {Q:Value→Shared→Prop} (O:KeyOrd) (key:Nat→O.α) (κ:SortKind) (hl:s.heap.IsList l vs.toArray) (h64:vs.length < 64)
    (hk:∀ (s':Shared) (E':Value→Shared→Prop) (Q:SortKind→Shared→Prop),(∀ b o,s.heap.get? b=some o→s'.heap.get? b=some o)→2≤vs.length→Q κ s'→wpAny (model prog w) A.in1.in1 (keyKind' vs.toArray) Q E' s')
    (hc:∀ (s':Shared) (i j:Nat) (C:Bool→Shared→Prop),(∀ b o,s.heap.get? b=some o→s'.heap.get? b=some o)→i < vs.length→j < vs.length→C (O.blt (key i) (key j)) s'→wpAny (model prog w) A.in1.in1 (keyLt' κ (vs.getD i Value.none) (vs.getD j Value.none)) C (fun _ _=>False) s')
    (h:∀ p:Array Nat,Srt.Pm vs.length p→Srt.Up (O:=O) key p vs.length→Q (.ref (s.heap.objs.size + 1)) { s with heap:=sortedAll s.heap vs (p.toList.map fun i=>vs.getD i Value.none).toArray }) :
    wpAny (model prog w) A (call (.builtin "sorted") [.ref l]) Q E s:=by
  refine Calls.call_function_entry kind_sorted plain_sorted entry_sorted (args_sorted1 _) ?_
  unfold Builtin.«sorted»
  refine wpAny_bind (m:=checkCount "sorted" 1 1 _) (wpAny_pure ?_)
  refine wpAny_bind (collect_list hl ?_ (by rw [sizeLine_eq];omega))
  refine wpAny_bind (wpAny_newList ?_ (by rw [sizeLine_eq];omega))
  have hsz:((s.heap.push (seqObj "list" #[] 0)).update s.heap.objs.size (Obj.mapSeq (· ++ vs.toArray))).objs.size=s.heap.objs.size + 1:=by rw [Heap.size_update,size_push']
  have hoL:(((s.heap.push (seqObj "list" #[] 0)).update s.heap.objs.size (Obj.mapSeq (· ++ vs.toArray))).push (seqObj "list" vs.toArray 0)).get? (s.heap.objs.size + 1)=some (seqObj "list" vs.toArray 0):=by
    rw [← hsz];exact Heap.get?_push_size _ rfl
  have keep:∀ b o,s.heap.get? b=some o→(((s.heap.push (seqObj "list" #[] 0)).update s.heap.objs.size (Obj.mapSeq (· ++ vs.toArray))).push (seqObj "list" vs.toArray 0)).get? b=some o:=fun b o e=>by
    have hlt:b < s.heap.objs.size:=Heap.lt_size e
    exact Heap.get?_push_of_some _ ((Heap.get?_update_ne _ _ _ _ (Nat.ne_of_lt hlt)).trans (Heap.get?_push_of_some _ e))
  show wpAny _ _ _ _ _ { s with heap:=((s.heap.push (seqObj "list" #[] 0)).update s.heap.objs.size (Obj.mapSeq (· ++ vs.toArray))).push (seqObj "list" vs.toArray 0) }
  rw [hsz]
  refine wpAny_bind (wpAny_holding (wpAny_call_entry slot_list_sort ⟨_,hoL,rfl⟩ entry_list_sort ?_ (args_list_sort _)))
  have old:∀ (s':Shared),(∀ b o,b≠s.heap.objs.size + 1→(((s.heap.push (seqObj "list" #[] 0)).update s.heap.objs.size (Obj.mapSeq (· ++ vs.toArray))).push (seqObj "list" vs.toArray 0)).get? b=some o→s'.heap.get? b=some o)→∀ b o,s.heap.get? b=some o→s'.heap.get? b=some o:=fun s' h b o e=>by
    have hlt:b < s.heap.objs.size:=Heap.lt_size e
    exact h b o (fun z=>by rw [z] at hlt;exact absurd hlt (Nat.not_lt.mpr (Nat.le_succ _))) (keep b o e)
  refine Mk (A:=A.in1.in1) O key κ hoL h64 (fun s' Q' hs h2 hq=>hk s' _ Q' (old s' hs) h2 hq) (fun s' i j C hs hi hj hC=>hc s' i j C (old s' hs) hi hj hC) fun p o1 o2=>⟨_,rfl,wpAny_pure ⟨_,rfl,h p o1 o2⟩⟩
theorem Nn {x y:Addr} {fx sx fy sy:Value} {b:Bool} {C:Bool→Shared→Prop} (hx:s.heap.IsTuple x [fx,sx].toArray) (hy:s.heap.IsTuple y [fy,sy].toArray)
    (hne:x≠y→SeqAt.EqAt A s fx fy false∧wpAny (model prog w) A (oneLt' b fx fy) C (fun _ _=>False) s) (heq:x=y→SeqAt.EqAt A s fx fx true∧SeqAt.EqAt A s sx sx true∧C false s) :
    wpAny (model prog w) A (keyLt' (tuples' b) (.ref x) (.ref y)) C E s:=by
  obtain ⟨ox,gx,cx,nx,dx⟩:=hx
  obtain ⟨oy,gy,cy,ny,dy⟩:=hy
  refine kat_lt gx dx gy dy ?_
  by_cases h:x=y
  · subst h
    obtain rfl:=Option.some.inj (gx.symm.trans gy)
    rw [dx] at dy
    injection dy with e1 e2
    have e3:[fx,sx]=[fy,sy]:=by simpa using congrArg Array.toList e1
    injection e3 with e4 e5
    injection e5 with e6 e7
    subst e4 e6
    obtain ⟨q1,q2,q3⟩:=heq rfl
    show KatLex prog w A b _ C [(fx,fx),(sx,sx)] 0 s
    refine kat_cons (q1 _ _ _ _ (kat_yes (kat_cons (q2 _ _ _ _ (kat_yes (kat_nil ?_))))))
    exact q3
  · obtain ⟨q1,q2⟩:=hne h
    show KatLex prog w A b _ C [(fx,fy),(sx,sy)] 0 s
    refine kat_cons (q1 _ _ _ _ (kat_no ?_))
    have:(b && (0:Nat) == 0)=b:=by simp
    rw [this]
    exact q2
end
theorem NF {α:Type} {O:KeyOrd} {ts:List α} {d:α} {key:α→O.α} {p:Array Nat} (hP:Srt.Pm ts.length p) (hU:Srt.Up (O:=O) (fun i=>key (ts.getD i d)) p ts.length) :
    (p.toList.map fun i=>ts.getD i d).Perm ts∧(p.toList.map fun i=>ts.getD i d).Pairwise fun x y=>O.blt (key y) (key x)=false:=by
  constructor
  · have h1:=List.Perm.map (fun i=>ts.getD i d) hP
    have e:(List.range ts.length).map (fun i=>ts.getD i d)=ts:=by
      apply List.ext_getElem (by simp)
      intro i a b
      simp at a
      simp [a]
    rwa [e] at h1
  · rw [List.pairwise_iff_getElem]
    intro i j hi hj hij
    have hsz:=hP.size
    simp only [List.length_map,Array.length_toList] at hi hj
    have:=hU i j (Nat.le_of_lt hij) (by omega)
    unfold KeyOrd.kle Srt.kk at this
    have ei:p.getD i 0=p[i]:=by simp [Array.getD,hi]
    have ej:p.getD j 0=p[j]:=by simp [Array.getD,hj]
    rw [ei,ej] at this
    simpa using this
theorem IsTuple.keeps {h h':Heap} {a:Addr} {xs:Array Value} (k:∀ b o,h.get? b=some o→h'.get? b=some o) (x:h.IsTuple a xs):h'.IsTuple a xs:=by
  obtain ⟨o,e,r⟩:=x
  exact ⟨o,k _ _ e,r⟩
section
variable {prog:Program} {w:World} {A:Around} {E:Value→Shared→Prop} {s:Shared}
end
section
variable {X:Cx}
theorem Yg {α:Type} {f:α→Addr}:∀ {ts:List α} {us:List Value},Vals (ts.map fun t=>V.ref (f t)) us→us=ts.map fun t=>Value.ref (f t)
  | [],_,.nil=>rfl
  | t :: ts,_,.cons r rr=>by
    have e:_=Value.ref (f t):=r
    rw [List.map_cons,← Yg rr,← e]
theorem JO {α:Type} {f:α→Addr}:∀ ts:List α,Vals (ts.map fun t=>V.ref (f t)) (ts.map fun t=>Value.ref (f t))
  | []=>.nil
  | t :: ts=>.cons rfl (JO ts)
end
end L2
namespace L2
open PySem PySem.Spec PyProof.Rows
theorem Zc:plainId "dict.update.loop" = true:=by decide +kernel
theorem Z7:entryFor table "dict.update.loop" = some Builtin.«dict.update.loop»:=entryFor_of_tree (by kernel_rfl)
theorem UZ:typeLookup (.type "list") "keys" = pure none:=by rw [typeLookup_type,builtinLookup_eq_fast];kernel_rfl
section
variable {prog:Program} {w:World} {A:Around} {E:Value→Shared→Prop} {s:Shared}
theorem VT {a:Addr} {xs:Array Value} {k:Nat} {sl:Array (Option Value)} {Q:Option Value→Shared→Prop} (hx:s.heap.get? a=some { cls:=.type "list", dict:=none,data:=.seq xs k,slots:=sl }) (hA:A.handled=none)
    (h:∀ h' tk,(∀ b o,s.heap.get? b=some o→h'.get? b=some o)→Q none { s with heap:=h',toks:=tk }):wpAny (model prog w) A (getAttr? (.ref a) "keys") Q E s:=by
  obtain ⟨hp,g,d,tk,os⟩:=s
  have hT:∀ tk',(⟨hp,g,d,tk',os⟩ : Shared).TypeIs (.ref a) "list" := fun _=>⟨_,hx,rfl⟩
  have f1:=sub_AttributeError
  have f3:=F.slot_list_getattribute.lookup
  have f4:=F.slot_list_getattribute.bind (.ref a)
  have f5:=am_list_getattr_none
  unfold getAttr? getAttrBy? getAttrBy
  repeat (any_goals (first | assumption | exact hT _ | ((with_reducible show wpAny _ _ (call (Value.builtin "list.__getattribute__") _ _) _ _ _);refine call_meets F.slot_list_getattribute (hT _) am_entry_list_getattribute (F.args_list_getattribute_2 _ _) (meets_getattribute_miss_list a xs k sl "keys" _ UZ (by decide +kernel)) ⟨hx,hA,fun h' tk' e hx'=>?_⟩) | wp_step))
  obtain ⟨t',u',he⟩:=hx'.there
  show wpAny _ _ (getattributeRaised _ _ _ _ _ _ _) _ _ _
  unfold getattributeRaised
  repeat (any_goals (first | assumption | wp_step))
  exact h _ _ hx'.keeps
theorem U9 {h:Heap} {a b:Addr} {o u:Obj} (ha:h.get? a=some o) (hb:h.get? b=some u) (hc:o.cls≠u.cls):a≠b:=fun e=>by
  subst e
  rw [ha] at hb
  exact hc (congrArg Obj.cls (Option.some.inj hb))
def ZM (kvs:List (Key × Value)):List (Key × Value)→List (Key × Value)
  | []=>kvs
  | p :: r=>ZM (stored kvs p.1 p.2) r
theorem XW {R:Result→Shared→Prop} {l d it:Addr} {items:Array Value} (hA:A.handled=none) (hli:l≠it) (hd0:(d == sysModules)=false):∀ (ps:List (Key × Value)) (i:Nat) (s:Shared) (kvs:List (Key × Value)),i + ps.length=items.size→s.heap.IsListIter it l i→s.heap.IsList l items→s.heap.DictOf (Qt prog w) d kvs→kvs.length + ps.length≤sizeLine →
    (∀ (j:Nat) (q:Key × Value),ps[j]?=some q→∃ p u,items[i + j]?=some (.ref p)∧(Qt prog w).is q.1 u=true∧s.heap.IsTuple p #[u,q.2]) →
    (∀ h' tk,h'.DictOf (Qt prog w) d (ZM kvs ps)→(∀ b o,b≠it→b≠d→s.heap.get? b=some o→h'.get? b=some o)→R (.ok (.ret .none)) { s with heap:=h',toks:=tk }) →
    codeAny (model prog w) A (.builtin "dict.update.loop" ⟨[.ref d,.ref it,rawInt (i:Int),.none],[]⟩) R s
  | [],i,s,kvs,hk,hit,hL,hD,hz,hp,hR=>by
    have W:=Walks.list (prog:=prog) (w:=w) (A:=A.in1) hA it l hli items
    have hin:i=items.size:=by simpa using hk
    subst hin
    refine codeAny_builtin Z7 ?_
    rw [Around.under_plainId Zc _]
    show wpAny _ A.in1 (pyNext (.ref it) >>= _) _ _ s
    refine wpAny_bind (W.done s _ _ ⟨hit,hL⟩ fun h' tk hk'=>?_)
    show wpAny _ A.in1 (Builtin.Dict.addKeywords d [] >>= _) _ _ _
    refine wpAny_bind (wpAny_pure (wpAny_pure ?_))
    have hdi:d≠it:=by
      obtain ⟨o,es,ep,ho,hc,_⟩:=hD
      obtain ⟨o2,ho2,hc2,_⟩:=hit
      exact U9 ho ho2 (by rw [hc.1,hc2];intro z;injection z with z;exact absurd z (by decide))
    exact hR h' tk (hD.extBut (b:=it) (fun a o hne e=>hk' a o (by simpa using hne) e) hdi) (fun b o h1 _ e=>hk' b o (by simpa using h1) e)
  | q :: ps,i,s,kvs,hk,hit,hL,hD,hz,hp,hR=>by
    have W:=Walks.list (prog:=prog) (w:=w) (A:=A.in1) hA it l hli items
    obtain ⟨p,u,hip,hku,hpt⟩:=hp 0 q rfl
    rw [Nat.add_zero] at hip
    have hlt:i < items.size:=by rw [List.length_cons] at hk;omega
    have hdi:d≠it:=by
      obtain ⟨o,es,ep,ho,hc,_⟩:=hD
      obtain ⟨o2,ho2,hc2,_⟩:=hit
      exact U9 ho ho2 (by rw [hc.1,hc2];intro z;injection z with z;exact absurd z (by decide))
    have hdl:d≠l:=by
      obtain ⟨o,es,ep,ho,hc,_⟩:=hD
      obtain ⟨o2,ho2,hc2,_⟩:=hL
      exact U9 ho ho2 (by rw [hc.1,hc2];intro z;injection z with z;exact absurd z (by decide))
    have hpi:∀ {p:Addr} {xs:Array Value},s.heap.IsTuple p xs→p≠it∧p≠d:=fun {p xs} ht=>by
      obtain ⟨o,ho,hc,_⟩:=ht
      obtain ⟨o2,ho2,hc2,_⟩:=id hit
      obtain ⟨o3,es,ep,ho3,hc3,_⟩:=id hD
      exact ⟨U9 ho ho2 (by rw [hc,hc2];intro z;injection z with z;exact absurd z (by decide)),U9 ho ho3 (by rw [hc,hc3.1];intro z;injection z with z;exact absurd z (by decide))⟩
    refine codeAny_builtin Z7 ?_
    rw [Around.under_plainId Zc _]
    show wpAny _ A.in1 (pyNext (.ref it) >>= _) _ _ s
    refine wpAny_bind (W.item i s _ _ hlt ⟨hit,hL⟩ fun v h' tk hP hst' hk'=>?_)
    obtain rfl:v=.ref p:=Option.some.inj ((show items[i]?=some v from hP).symm.trans hip)
    have hk2:∀ b o,b≠it→s.heap.get? b=some o→h'.get? b=some o:=fun b o hb e=>hk' b o (by simpa using hb) e
    have hpt':h'.IsTuple p #[u,q.2]:=by
      obtain ⟨o,ho,r⟩:=id hpt
      exact ⟨o,hk2 _ _ (hpi hpt).1 ho,r⟩
    obtain ⟨o,ho,hc,n,hdat⟩:=id hpt'
    refine wpAny_bind (wpAny_holding ?_)
    refine wpAny_bind (wpAny_tryCatch ?_)
    unfold Builtin.Dict.pairItems
    refine wpAny_bind (wpAny_typeOf (T:="tuple") (s:={ s with heap:=h',toks:=tk }) ⟨o,ho,hc⟩ ?_)
    rw [if_pos (by decide +kernel)]
    refine wpAny_bind ?_
    show wpAny _ A.in1 (load p >>= _) _ _ _
    refine wpAny_bind (wpAny_load ho ?_)
    rw [hdat]
    refine wpAny_pure (wpAny_pure ?_)
    have hD':h'.DictOf (Qt prog w) d kvs:=hD.extBut (b:=it) (fun a o hne e=>hk2 a o hne e) hdi
    refine wpAny_holding (wpAny_dictSet_pairs (s:={ s with heap:=h',toks:=tk }) hku hD' (fun h'' hD'' hs=>?_) (by rw [List.length_cons] at hz;omega))
    have hit2:h''.IsListIter it l (i + 1):=by
      obtain ⟨o,ho,r⟩:=hst'.1
      exact ⟨o,(hs.2 it (Ne.symm hdi)).trans ho,r⟩
    have hL2:h''.IsList l items:=by
      obtain ⟨o,ho,r⟩:=hst'.2
      exact ⟨o,(hs.2 l (Ne.symm hdl)).trans ho,r⟩
    have keep2:∀ b o,b≠it→b≠d→s.heap.get? b=some o→h''.get? b=some o:=fun b o h1 h2 e=>(hs.2 b h2).trans (hk2 b o h1 e)
    have hlen:(stored kvs q.1 q.2).length≤kvs.length + 1:=by
      unfold stored
      split
      · rw [List.length_map];omega
      · rw [List.length_append];simp
    refine wpAny_pure ⟨plainId_quiet Zc _,?_⟩
    refine XW hA hli hd0 ps (i + 1) _ (stored kvs q.1 q.2) (by rw [List.length_cons] at hk;omega) hit2 hL2 hD'' (by rw [List.length_cons] at hz;omega) (fun j r hj=>?_) fun h3 tk3 hD3 hk3=>?_
    · obtain ⟨p',u',e1,e2,e3⟩:=hp (j + 1) r (by simpa using hj)
      refine ⟨p',u',by rw [← e1];congr 1;omega,e2,?_⟩
      obtain ⟨o,ho,rr⟩:=id e3
      exact ⟨o,keep2 _ _ (hpi e3).1 (hpi e3).2 ho,rr⟩
    · exact hR h3 tk3 hD3 fun b o h1 h2 e=>hk3 b o h1 h2 (keep2 b o h1 h2 e)
theorem UG {l:Addr} {items:Array Value} {ps:List (Key × Value)} {Q:Value→Shared→Prop} (hA:A.handled=none) (hb:sysModules < s.heap.objs.size) {ol:Obj} {nl:Nat} (hl:s.heap.get? l=some ol) (hlc:ol.cls=.type "list") (hld:ol.dict=none) (hlt:ol.data=.seq items nl) (hz:ps.length≤sizeLine) (hn:ps.length=items.size)
    (hp:∀ (j:Nat) (q:Key × Value),ps[j]?=some q→∃ p u,items[j]?=some (.ref p)∧(Qt prog w).is q.1 u=true∧s.heap.IsTuple p #[u,q.2])
    (h:∀ h' tk,h'.DictOf (Qt prog w) s.heap.objs.size (ZM [] ps)→(∀ b o,s.heap.get? b=some o→h'.get? b=some o)→Q (.ref s.heap.objs.size) { s with heap:=h',toks:=tk }) :
    wpAny (model prog w) A (call (.type "dict") [.ref l]) Q E s:=by
  refine callType_codes (Q₁:=fun obj s₁=>obj=.ref s.heap.objs.size∧s₁={ s with heap:=s.heap.push { cls:=.type "dict", data:=.dict #[] } }) F.kt_called_dict (F.kt_typeCall_dict_1 _) F.entry_dict_init (kt_code_dict_new _ ⟨rfl,rfl⟩) ?_
  rintro obj s₁ ⟨rfl,rfl⟩
  have hnew:(s.heap.push { cls:=.type "dict", data:=.dict #[] }).DictOf (Qt prog w) s.heap.objs.size []:=Heap.DictOf.new s.heap
  have hl1:(s.heap.push { cls:=.type "dict", data:=.dict #[] }).get? l=some ol:=Heap.get?_push_of_some _ hl
  have hT:({ s with heap:=s.heap.push { cls:=.type "dict", data:=.dict #[] } }:Shared).TypeIs (.ref l) "list" := ⟨_,hl1,hlc⟩
  obtain ⟨c1,d1,t1,s1⟩:=ol
  simp only at hlc hld hlt
  subst hlc hld hlt
  refine ⟨hnew.typeIs,F.args_dict_init_2 _ _,?_⟩
  unfold Builtin.«dict.__init__»
  refine wpAny_bind ?_
  unfold Builtin.Dict.selfAndRest
  refine wpAny_bind (wpAny_notOrdered_dict hnew.typeIs ?_)
  show wpAny _ _ (pure (s.heap.objs.size,[Value.ref l])) _ _ _
  refine wpAny_pure ?_
  show wpAny _ _ (Builtin.Dict.updateFrom "dict.__init__" s.heap.objs.size (.ref l) [] .none) _ _ _
  unfold Builtin.Dict.updateFrom
  refine wpAny_bind (wpAny_typeOf hT ?_)
  rw [if_pos (by decide)]
  refine wpAny_bind (VT hl1 hA fun h2 tk2 hk2=>?_)
  simp only [Option.isNone_none,if_true]
  refine wpAny_bind (wpAny_rule ?_)
  have hL2:h2.IsList l items:=⟨_,hk2 _ _ hl1,rfl,nl,rfl⟩
  refine wpAny_bind (wpAny_pyIter_list (s:={ s with heap:=h2,toks:=tk2 }) hL2 ?_)
  have hlt2:l < h2.objs.size:=Heap.lt_size (hk2 _ _ hl1)
  have hsz2:s.heap.objs.size < h2.objs.size:=by
    obtain ⟨o,es,ep,ho,_⟩:=id hnew
    exact Heap.lt_size (hk2 _ _ ho)
  have hD2:h2.DictOf (Qt prog w) s.heap.objs.size []:=by
    obtain ⟨o,es,ep,ho,r⟩:=id hnew
    exact ⟨o,es,ep,hk2 _ _ ho,r⟩
  have old:∀ b o,s.heap.get? b=some o→h2.get? b=some o:=fun b o e=>hk2 b o (Heap.get?_push_of_some _ e)
  refine wpAny_pure ⟨plainId_quiet Zc _,XW (A:=A.in1) (it:=h2.objs.size) (l:=l) (items:=items) hA (Nat.ne_of_lt hlt2) (beq_eq_false_iff_ne.mpr (Ne.symm (Nat.ne_of_lt hb))) ps 0 _ [] (by simpa using hn) ⟨_,Heap.get?_push_size _ rfl,rfl,rfl⟩ (hL2.push _) (hD2.push _) (by simpa using hz) (fun j q hq=>?_) fun h' tk hD hk=>⟨rfl,?_⟩⟩
  · obtain ⟨p,u,e1,e2,o,ho,r⟩:=hp j q hq
    exact ⟨p,u,by rw [Nat.zero_add];exact e1,e2,o,Heap.get?_push_of_some _ (old _ _ ho),r⟩
  · refine h h' tk hD fun b o e=>hk b o ?_ ?_ (Heap.get?_push_of_some _ (old b o e))
    · exact Nat.ne_of_lt (Heap.lt_size (old b o e))
    · exact Nat.ne_of_lt (Heap.lt_size e)
end
theorem WZ {kvs:List (Key × Value)} {k:Key} {v:Value} (h:k ∉ kvs.map (·.1)):stored kvs k v=kvs ++ [(k,v)]:=by
  unfold stored
  rw [if_neg]
  intro z
  obtain ⟨kv,h1,h2⟩:=List.any_eq_true.mp z
  exact h (List.mem_map.mpr ⟨kv,h1,of_decide_eq_true h2⟩)
theorem ZQ:∀ (ps kvs:List (Key × Value)),((kvs ++ ps).map (·.1)).Nodup→ZM kvs ps=kvs ++ ps
  | [],kvs,_=>by simp [ZM]
  | p :: r,kvs,h=>by
    have hn:p.1 ∉ kvs.map (·.1):=fun hm=>by
      rw [List.map_append,List.nodup_append] at h
      exact h.2.2 _ hm _ (by simp) rfl
    show ZM (stored kvs p.1 p.2) r=_
    rw [WZ hn]
    have e:kvs ++ [(p.1,p.2)] ++ r=kvs ++ p :: r:=by simp
    rw [ZQ r _ (by rw [e];exact h),e]
theorem Wp {X:Cx} {pins:List (Addr × Obj)} {σ:St} {H:Hp} {s:Shared} (I:Inv X pins σ H s):∀ ts:List (Addr × Str × V),(∀ t ∈ ts,SqT X.K H t.1 [.str t.2.1,t.2.2]) →
    ∃ ps:List (Key × Value),KV (ts.map fun t=>((Sum.inr t.2.1:Key),t.2.2)) ps∧∀ (j:Nat) (q:Key × Value),ps[j]?=some q→∃ p u,(ts.map fun t=>Value.ref t.1)[j]?=some (.ref p)∧(Qt X.prog X.w).is q.1 u=true∧s.heap.IsTuple p #[u,q.2]
  | [],_=>⟨[],.nil,fun j q h=>by simp at h⟩
  | t :: r,h=>by
    obtain ⟨ps,h1,h2⟩:=Wp I r fun u hu=>h u (List.mem_cons_of_mem _ hu)
    obtain ⟨its,rv,p,_⟩:=I.tuple (h t List.mem_cons_self)
    obtain ⟨u,v,rfl,ru,rv'⟩:=rv.two
    refine ⟨(Sum.inr t.2.1,v) :: ps,.cons ⟨rfl,rv'⟩ h1,fun j q hj=>?_⟩
    cases j with
    | zero =>
      have:q=(Sum.inr t.2.1,v):=by simpa using hj.symm
      subst this
      exact ⟨t.1,u,rfl,YT (k:=Sum.inr t.2.1) ru,p⟩
    | succ j =>
      obtain ⟨p',u',e1,e2,e3⟩:=h2 j q (by simpa using hj)
      exact ⟨p',u',by simpa using e1,e2,e3⟩
theorem KV.keys' {kvs:List (Key × V)} {ps:List (Key × Value)} (r:KV kvs ps):ps.map (·.1)=kvs.map (·.1):=by
  induction r with
  | nil=>rfl
  | cons h _ ih=>rw [List.map_cons,List.map_cons,ih,h.1]
section
variable {X:Cx}
theorem Zg (hc:X.calm=true):Zw X (.type "dict") (fun xs H Q=>∃ (l:Addr) (ts:List (Addr × Str × V)),xs=[.ref l]∧SqL X.K H l (ts.map fun t=>V.ref t.1)∧(∀ t ∈ ts,SqT X.K H t.1 [.str t.2.1,t.2.2])∧(ts.map fun t=>t.2.1).Nodup∧ts.length≤1000 ∧
    ∀ d,H d=none→Q (.ref d) (upd H d (.dK (ts.map fun t=>((Sum.inr t.2.1:Key),t.2.2))))):=by
  intro pins s σ H xs us Q I r h
  obtain ⟨l,ts,rfl,hl,ht,hnd,hz,q⟩:=h
  cases r with
  | cons r rr =>
    cases rr
    obtain rfl:_=Value.ref l:=r
    obtain ⟨its,rv,⟨o,n,e,c,dn,dt⟩,_⟩:=I.list hl
    obtain rfl:=Yg rv
    obtain ⟨ps,hkv,hps⟩:=Wp I ts ht
    have hlen:ps.length=ts.length:=by have:=hkv.length;rw [List.length_map] at this;exact this.symm
    have hz1:ps.length≤sizeLine:=by rw [hlen,sizeLine_eq];omega
    refine UG (I.ok.hd hc) I.big e c dn dt hz1 (by rw [List.size_toArray,List.length_map];exact hlen) (fun j q hq=>by simpa using hps j q hq) fun h' tk hD hk=>?_
    have hk1:((([]:List (Key × Value)) ++ ps).map (·.1)).Nodup:=by
      rw [List.nil_append,KV.keys' hkv,List.map_map]
      have e2:(ts.map ((fun x:Key × V=>x.1) ∘ fun t=>((Sum.inr t.2.1:Key),t.2.2)))=(ts.map fun t=>t.2.1).map (Sum.inr:Str→Key):=by rw [List.map_map];rfl
      rw [e2]
      exact List.Pairwise.map _ (fun a b hne z=>hne (by injection z)) hnd
    rw [ZQ ps [] hk1,List.nil_append] at hD
    have hfr:=I.hok.fresh (Nat.le_refl s.heap.objs.size)
    refine ⟨.ref s.heap.objs.size,_,I.laid (a:=s.heap.objs.size) (o:=.dK (ts.map fun t=>((Sum.inr t.2.1:Key),t.2.2))) (t':=tk) hk (Nat.le_refl _) (XB (by rw [List.length_map,sizeLine_eq];omega) (beq_eq_false_iff_ne.mpr (Ne.symm (Nat.ne_of_lt I.big))) hkv hD),rfl,q _ hfr⟩
theorem Jl:∀ {bs:List Bool} {us:List Value},Vals (bs.map V.bl) us→us=bs.map Value.bool
  | [],_,.nil=>rfl
  | b :: bs,_,.cons r rr=>by
    have e:_=Value.bool b:=r
    rw [List.map_cons,← Jl rr,← e]
theorem VP (hc:X.calm=true):Zw X (.builtin "all") (fun xs H Q=>∃ (l:Addr) (bs:List Bool),xs=[.ref l]∧SqL X.K H l (bs.map V.bl)∧Q (.bl (bs.all id)) H):=by
  intro pins s σ H xs us Q I r h
  obtain ⟨l,bs,rfl,hl,q⟩:=h
  cases r with
  | cons r rr =>
    cases rr
    obtain rfl:_=Value.ref l:=r
    obtain ⟨its,rv,p,_⟩:=I.list hl
    obtain rfl:=Jl rv
    have hL:=p.isList
    have hlt:l < s.heap.objs.size:=by obtain ⟨_,e,_⟩:=hL;exact Heap.lt_size e
    refine call_all_walk (wpAny_pyIter_list hL ?_)
    refine ⟨s.heap.objs.size,[s.heap.objs.size,l],[s.heap.objs.size],(bs.map Value.bool).toArray.size,_,_,fun i=>(bs[i]?).getD true,rfl,Walks.list (A:=X.A.in1) (I.ok.hd hc) _ l (Nat.ne_of_lt hlt) (bs.map Value.bool).toArray,
      ⟨⟨_,Heap.get?_push_size _ rfl,rfl,rfl⟩,hL.push _⟩,fun i v s' Q' E' hP hQ=>?_,fun h' tk hk=>?_⟩
    · have hP':(bs.map Value.bool)[i]?=some v:=by simpa using hP
      rw [List.getElem?_map] at hP'
      cases eb:bs[i]? with
      | none=>rw [eb] at hP';simp at hP'
      | some b =>
        rw [eb] at hP'
        obtain rfl:Value.bool b=v:=by simpa using hP'
        have hQ2:Q' ((bs[i]?).getD true) s':=hQ
        rw [eb] at hQ2
        exact wpAny_truthy_bool hQ2
    · have e:((List.range (bs.map Value.bool).toArray.size).all fun i=>(bs[i]?).getD true)=bs.all id:=by
        rw [List.size_toArray,List.length_map,Bool.eq_iff_iff,List.all_eq_true,List.all_eq_true]
        constructor
        · intro h x hx
          obtain ⟨i,hi,rfl⟩:=List.getElem_of_mem hx
          have:=h i (List.mem_range.mpr hi)
          rw [List.getElem?_eq_getElem hi] at this
          exact this
        · intro h i hi
          have hi':=List.mem_range.mp hi
          rw [List.getElem?_eq_getElem hi']
          exact h _ (List.getElem_mem hi')
      rw [e]
      exact ⟨.bl _,H,I.kept (t':=tk) (fun b o eb=>hk b o (fun hm=>by rw [List.mem_singleton.mp hm] at eb;exact Nat.lt_irrefl _ (Heap.lt_size eb)) (Heap.get?_push_of_some _ eb)),rfl,q⟩
end
end L2
namespace L2
open PySem PySem.Spec PyProof.Rows
section
variable {X:Cx} {tg:Expr}
end
end L2
namespace TM
inductive Tree (α:Type) where
  | node (name:α) (mark:Int) (bs:List (Tree α))
variable {α:Type}
def Tree.bs:Tree α→List (Tree α)
  | .node _ _ bs=>bs
def atT:Tree α→List Int→Option (Tree α)
  | t,[]=>some t
  | t,i :: r=>if 0≤i then (match t.bs[i.toNat]? with
    | some b=>atT b r
    | none=>none) else none
structure Rows (α:Type) where
  n:Nat
  nm:Nat→α
  mr:Nat→Int
  up:Nat→Nat
variable {R:Rows α}
section
variable {K:Nat→List Int} {B:Nat→Tree α} {o0:Tree α}
def it (R:Rows α):Nat→Nat→Nat
  | 0,s=>s
  | j + 1,s=>R.up (it R j s)
variable {B':Nat→Tree α} {o:Tree α} {s:Nat}
end
end TM
namespace L2
open PySem PySem.Spec PyProof.Rows TM
mutual
inductive TrV (K:PySem.W.Frag) (H:Hp):V→Tree Str→Prop where
  | mk {a b:Addr} {vs:List V} {ts:List (Tree Str)} {name:Str} {mark:Int}:SqT K H a [.str name,.int mark,.ref b]→SqT K H b vs→TrAll K H vs ts→vs.length≤1000→TrV K H (.ref a) (.node name mark ts)
inductive TrAll (K:PySem.W.Frag) (H:Hp):List V→List (Tree Str)→Prop where
  | nil:TrAll K H [] []
  | cons {v:V} {vs:List V} {t:Tree Str} {ts:List (Tree Str)}:TrV K H v t→TrAll K H vs ts→TrAll K H (v :: vs) (t :: ts)
end
mutual
theorem TrV.mono {K:PySem.W.Frag} {H H':Hp} (k:∀ a xs,SqT K H a xs→SqT K H' a xs):∀ {v:V} {t:Tree Str},TrV K H v t→TrV K H' v t
  | _,_,.mk h1 h2 h3 h4=>.mk (k _ _ h1) (k _ _ h2) (TrAll.mono k h3) h4
theorem TrAll.mono {K:PySem.W.Frag} {H H':Hp} (k:∀ a xs,SqT K H a xs→SqT K H' a xs):∀ {vs:List V} {ts:List (Tree Str)},TrAll K H vs ts→TrAll K H' vs ts
  | _,_,.nil=>.nil
  | _,_,.cons h t=>.cons (TrV.mono k h) (TrAll.mono k t)
end
theorem TrAll.length {K:PySem.W.Frag} {H:Hp}:∀ {vs:List V} {ts:List (Tree Str)},TrAll K H vs ts→vs.length=ts.length
  | _,_,.nil=>rfl
  | _,_,.cons _ t=>by rw [List.length_cons,List.length_cons,TrAll.length t]
theorem TrAll.get {K:PySem.W.Frag} {H:Hp}:∀ {vs:List V} {ts:List (Tree Str)} {i:Nat} {t:Tree Str},TrAll K H vs ts→ts[i]?=some t→∃ v,vs[i]?=some v∧TrV K H v t
  | _,_,_,_,.nil,e=>by simp at e
  | _,_,0,_,.cons h _,e=>by simp at e;subst e;exact ⟨_,rfl,h⟩
  | _,_,i + 1,t,.cons _ r,e=>by
    obtain ⟨v,h1,h2⟩:=TrAll.get (i:=i) (t:=t) r (by simpa using e)
    exact ⟨v,by simpa using h1,h2⟩
theorem TrAll.append {K:PySem.W.Frag} {H:Hp}:∀ {vs ws:List V} {ts us:List (Tree Str)},TrAll K H vs ts→TrAll K H ws us→TrAll K H (vs ++ ws) (ts ++ us)
  | _,_,_,_,.nil,h=>h
  | _,_,_,_,.cons a t,h=>.cons a (TrAll.append t h)
theorem SqT.put {K:PySem.W.Frag} {H:Hp} {a d:Addr} {xs ys:List V} {o:HO} (h:SqT K H a xs) (hd:H d=some (.lst ys)):SqT K (upd H d o) a xs:=by
  rcases h with (h | ⟨ob,h⟩) | h
  · exact .inl (.inl (by rw [Qg (QK h hd (by intro z;cases z))];exact h))
  · exact .inl (.inr ⟨ob,by rw [Qg (QK h hd (by intro z;cases z))];exact h⟩)
  · exact .inr h
end L2
namespace TM
variable {α:Type}
mutual
def sz:Tree α→Nat
  | .node _ _ bs=>1 + szs bs
def szs:List (Tree α)→Nat
  | []=>0
  | t :: r=>sz t + szs r
end
mutual
def lv:Tree α→Nat
  | .node _ _ bs=>1 + lvs bs
def lvs:List (Tree α)→Nat
  | []=>0
  | t :: r=>max (lv t) (lvs r)
end
mutual
def pl:Tree α→List (List Int)
  | .node _ _ bs=>[] :: pls 0 bs
def pls:Nat→List (Tree α)→List (List Int)
  | _,[]=>[]
  | i,t :: r=>(pl t).map (List.cons (i:Int)) ++ pls (i + 1) r
end
theorem GE (t:Tree α):sz t=1 + szs t.bs:=by cases t;simp [sz,Tree.bs]
theorem Zn (t:Tree α):lv t=1 + lvs t.bs:=by cases t;simp [lv,Tree.bs]
theorem Us:∀ ts:List (Tree α),((ts.map fun t=>(sz t:Int)).sum)=(szs ts:Int)
  | []=>by simp [szs]
  | t :: r=>by rw [List.map_cons,List.sum_cons,Us r];simp [szs]
theorem NQ {ts:List (Tree α)} {t:Tree α} (h:t ∈ ts):sz t≤szs ts:=by
  induction ts with
  | nil=>cases h
  | cons u r ih =>
    simp only [szs]
    rcases List.mem_cons.mp h with rfl | h
    · omega
    · have:=ih h;omega
theorem Ud {ts:List (Tree α)} {t:Tree α} (h:t ∈ ts):lv t≤lvs ts:=by
  induction ts with
  | nil=>cases h
  | cons u r ih =>
    simp only [lvs]
    rcases List.mem_cons.mp h with rfl | h
    · omega
    · have:=ih h;omega
open HT (NL)
variable {R:Rows α} {K:Nat→List Int} {B:Nat→Tree α} {o0:Tree α}
end TM
namespace TT
open TM PySem
inductive Lab where
  | call (m b:Int)
  | put (nm:Str) (kept:Bool) (add:Int)
abbrev Tm:=Tree Lab
def Ze (m b:Int):Tm:=.node (.call m b) 0 []
def lcl:Lab→List (Int × Int)
  | .call m b=>[(m,b)]
  | .put _ _ _=>[]
def isC:Lab→Bool
  | .call _ _=>true
  | .put _ _ _=>false
def lab:Tm→Lab
  | .node l _ _=>l
mutual
def cls:Tm→List (Int × Int)
  | .node l _ bs=>lcl l ++ Zj bs
def Zj:List Tm→List (Int × Int)
  | []=>[]
  | t :: r=>cls t ++ Zj r
end
def hdF (f:Int→Int→Tm):Lab→List Tm→Tm
  | .call m b,_=>f m b
  | .put n k a,ts=>.node (.put n k a) 0 ts
mutual
def sub (f:Int→Int→Tm):Tm→Tm
  | .node l _ bs=>hdF f l (PN f bs)
def PN (f:Int→Int→Tm):List Tm→List Tm
  | []=>[]
  | t :: r=>sub f t :: PN f r
end
theorem JD:∀ (ts:List Tm) (t:Tm),Zj (ts ++ [t])=Zj ts ++ cls t
  | [],t=>by simp [Zj]
  | u :: r,t=>by rw [List.cons_append];simp only [Zj,JD r t,List.append_assoc]
mutual
theorem VF:∀ t:Tm,(cls t).length≤sz t
  | .node l _ bs=>by
    simp only [cls,sz,List.length_append]
    have:=U6 bs
    have h:(lcl l).length≤1:=by cases l <;> simp [lcl]
    omega
theorem U6:∀ ts:List Tm,(Zj ts).length≤szs ts
  | []=>by simp [Zj,szs]
  | t :: r=>by simp only [Zj,szs,List.length_append];have h1:=VF t;have h2:=U6 r;omega
end
def look (t:Tm) (p:List Int):List (Int × Int):=match atT t p with
  | some u=>lcl (lab u)
  | none=>[]
variable {R:Rows Lab}
variable {B B':Nat→Tm} {f:Int→Int→Tm}
end TT
namespace L2
open PySem PyProof.Rows TM TT
abbrev CALL:Str:=Str.ofString "call"
abbrev PUT:Str:=Str.ofString "put"
mutual
inductive TmV (K:PySem.W.Frag) (H:Hp):V→Tm→Prop where
  | call {a:Addr} {m b:Int}:SqT K H a [.str CALL,.int m,.int b]→TmV K H (.ref a) (.node (.call m b) 0 [])
  | put {a b:Addr} {vs:List V} {ts:List Tm} {n:Str} {k:Bool} {ad:Int}:SqT K H a [.str PUT,.str n,.bl k,.int ad,.ref b]→SqT K H b vs→TmAll K H vs ts→vs.length≤1000→TmV K H (.ref a) (.node (.put n k ad) 0 ts)
inductive TmAll (K:PySem.W.Frag) (H:Hp):List V→List Tm→Prop where
  | nil:TmAll K H [] []
  | cons {v:V} {vs:List V} {t:Tm} {ts:List Tm}:TmV K H v t→TmAll K H vs ts→TmAll K H (v :: vs) (t :: ts)
end
mutual
theorem TmV.mono {K:PySem.W.Frag} {H H':Hp} (k:∀ a xs,SqT K H a xs→SqT K H' a xs):∀ {v:V} {t:Tm},TmV K H v t→TmV K H' v t
  | _,_,.call h=>.call (k _ _ h)
  | _,_,.put h1 h2 h3 h4=>.put (k _ _ h1) (k _ _ h2) (TmAll.mono k h3) h4
theorem TmAll.mono {K:PySem.W.Frag} {H H':Hp} (k:∀ a xs,SqT K H a xs→SqT K H' a xs):∀ {vs:List V} {ts:List Tm},TmAll K H vs ts→TmAll K H' vs ts
  | _,_,.nil=>.nil
  | _,_,.cons h t=>.cons (TmV.mono k h) (TmAll.mono k t)
end
theorem TmAll.length {K:PySem.W.Frag} {H:Hp}:∀ {vs:List V} {ts:List Tm},TmAll K H vs ts→vs.length=ts.length
  | _,_,.nil=>rfl
  | _,_,.cons _ t=>by rw [List.length_cons,List.length_cons,TmAll.length t]
theorem TmAll.get {K:PySem.W.Frag} {H:Hp}:∀ {vs:List V} {ts:List Tm} {i:Nat} {t:Tm},TmAll K H vs ts→ts[i]?=some t→∃ v,vs[i]?=some v∧TmV K H v t
  | _,_,_,_,.nil,e=>by simp at e
  | _,_,0,_,.cons h _,e=>by simp at e;subst e;exact ⟨_,rfl,h⟩
  | _,_,i + 1,t,.cons _ r,e=>by
    obtain ⟨v,h1,h2⟩:=TmAll.get (i:=i) (t:=t) r (by simpa using e)
    exact ⟨v,by simpa using h1,h2⟩
theorem TmAll.append {K:PySem.W.Frag} {H:Hp}:∀ {vs ws:List V} {ts us:List Tm},TmAll K H vs ts→TmAll K H ws us→TmAll K H (vs ++ ws) (ts ++ us)
  | _,_,_,_,.nil,h=>h
  | _,_,_,_,.cons a t,h=>.cons a (TmAll.append t h)
def tdl:Lab→List PyData→PyData
  | .call m b,_=>.tuple [.str CALL,.int m,.int b]
  | .put n k a,ds=>.tuple [.str PUT,.str n,.bool k,.int a,.tuple ds]
mutual
def tmd:Tm→PyData
  | .node l _ bs=>tdl l (Ul bs)
def Ul:List Tm→List PyData
  | []=>[]
  | t :: r=>tmd t :: Ul r
end
mutual
theorem TmV.rd {K:PySem.W.Frag} {H:Hp}:∀ {v:V} {t:Tm},TmV K H v t→RdV K H v (tmd t)
  | _,_,.call h=>by
    simp only [tmd,tdl]
    exact .tup h (.cons (.str _) (.cons (.int _) (.cons (.int _) .nil)))
  | _,_,.put h1 h2 h3 _=>by
    simp only [tmd,tdl]
    exact .tup h1 (.cons (.str _) (.cons (.str _) (.cons (.bl _) (.cons (.int _) (.cons (.tup h2 (TmAll.rd h3)) .nil)))))
theorem TmAll.rd {K:PySem.W.Frag} {H:Hp}:∀ {vs:List V} {ts:List Tm},TmAll K H vs ts→RdAll K H vs (Ul ts)
  | _,_,.nil=>by simp only [Ul];exact .nil
  | _,_,.cons h t=>by simp only [Ul];exact .cons (TmV.rd h) (TmAll.rd t)
end
def MOk (d:Nat) (t:Tm):Prop:=(tmd t).canLay0=true∧(tmd t).depth≤d
theorem MOk.mono {d e:Nat} {t:Tm} (h:MOk d t) (hd:d≤e):MOk e t:=⟨h.1,Nat.le_trans h.2 hd⟩
theorem Xw {d:Nat}:∀ ts:List Tm,(∀ t ∈ ts,MOk d t)→PyData.canLayAll0 (Ul ts)=true∧PyData.depthAll (Ul ts)≤d
  | [],_=>by simp [Ul,PyData.canLayAll0,PyData.depthAll]
  | t :: r,h=>by
    obtain ⟨h1,h2⟩:=h t List.mem_cons_self
    obtain ⟨h3,h4⟩:=Xw r fun u hu=>h u (List.mem_cons_of_mem _ hu)
    simp only [Ul,PyData.canLayAll0,PyData.depthAll,h1,h3,Bool.and_self,true_and]
    omega
theorem G2:PyData.strOk CALL=true:=by decide +kernel
theorem Ng:PyData.strOk PUT=true:=by decide +kernel
theorem MC (m b:Int) (mk:Int) (bs:List Tm):MOk 1 (.node (.call m b) mk bs):=by
  constructor
  · simp only [tmd,tdl,PyData.canLay0,PyData.canLayAll0,G2,Bool.and_self]
  · simp only [tmd,tdl,PyData.depth,PyData.depthAll];omega
theorem NZ {d:Nat} {n:Str} {k:Bool} {a mk:Int} {ts:List Tm} (hn:PyData.strOk n=true) (h:∀ t ∈ ts,MOk d t):MOk (d + 2) (.node (.put n k a) mk ts):=by
  obtain ⟨h1,h2⟩:=Xw ts h
  constructor
  · simp only [tmd,tdl,PyData.canLay0,PyData.canLayAll0,h1,hn,Ng,Bool.and_self]
  · simp only [tmd,tdl,PyData.depth,PyData.depthAll]
    omega
end L2
namespace L2
open PySem PySem.Spec PyProof.Rows PySem.W
section
variable {X:Cx}
end
@[reducible] def strOrd:KeyOrd:=⟨List Nat,fun a b=>decide (a < b),fun a=>strKind.irrefl a,fun a b c=>strKind.trans a b c,fun a b c=>strKind.negTrans a b c,fun a b=>strKind.total a b⟩
abbrev PNx:=Addr × Str × Addr × List Str
def PairN (h:Heap) (t:PNx):Prop:=∃ (tk:Tok) (as:List Addr),h.IsTuple t.1 [Value.str t.2.1 tk,Value.ref t.2.2.1].toArray∧Reads h (.ref t.2.2.1) (.tuple (t.2.2.2.map PyData.str)) as
theorem PairN.keeps {h h':Heap} {t:PNx} (k:∀ b o,h.get? b=some o→h'.get? b=some o) (x:PairN h t):PairN h' t:=by
  obtain ⟨tk,as,h1,h2⟩:=x
  exact ⟨tk,as,IsTuple.keeps k h1,Reads.keeps k h2⟩
theorem YD {K:PySem.W.Frag} {H:Hp}:∀ p:List Str,RdAll K H (p.map V.str) (p.map PyData.str)
  | []=>.nil
  | i :: r=>.cons (.str i) (YD r)
theorem Z3:∀ p:List Str,(∀ x ∈ p,PyData.strOk x=true)→PyData.canLayAll0 (p.map PyData.str)=true
  | [],_=>by simp [PyData.canLayAll0]
  | i :: r,h=>by simp only [List.map_cons,PyData.canLayAll0,PyData.canLay0,Z3 r fun x hx=>h x (List.mem_cons_of_mem _ hx),h i List.mem_cons_self,Bool.and_self]
theorem Jh {h:Heap}:∀ {ts:List PNx},(∀ t ∈ ts,PairN h t)→∃ fs:List Value,KatTups h (ts.map fun t=>Value.ref t.1) fs∧(∀ v ∈ fs,∃ x t,v=Value.str x t)∧fs.length=ts.length
  | [],_=>⟨[],KatTups.nil,fun v hv=>(nomatch hv),rfl⟩
  | t :: r,ht=>by
    obtain ⟨tk,as,⟨o,go,gc,n,gd⟩,_⟩:=ht t List.mem_cons_self
    obtain ⟨fs,h1,h2,h3⟩:=Jh fun u hu=>ht u (List.mem_cons_of_mem _ hu)
    refine ⟨Value.str t.2.1 tk :: fs,KatTups.cons go gc gd rfl h1,fun v hv=>?_,by simp [h3]⟩
    rcases List.mem_cons.mp hv with rfl | hv
    · exact ⟨_,_,rfl⟩
    · exact h2 v hv
section
variable {prog:Program} {w:World} {A:Around} {E:Value→Shared→Prop} {s:Shared}
theorem Lx {t u:PNx} {C:Bool→Shared→Prop} (ht:PairN s.heap t) (hu:PairN s.heap u) (hok:∀ x ∈ t.2.2.2,PyData.strOk x=true) (hd:t.1≠u.1→t.2.1≠u.2.1) (hA:A.units + 2 < cLine) (h:C (decide (t.2.1.cps.toList < u.2.1.cps.toList)) s):wpAny (model prog w) A (keyLt' (tuples' true) (.ref t.1) (.ref u.1)) C E s:=by
  obtain ⟨tk,as,h1,h4⟩:=ht
  obtain ⟨tk2,as2,g1,g4⟩:=hu
  have lay:(PyData.tuple (t.2.2.2.map PyData.str)).canLay0=true:=by simp only [PyData.canLay0];exact Z3 _ hok
  have dep:(PyData.tuple (t.2.2.2.map PyData.str)).depth≤1:=by simp only [PyData.depth,YA];omega
  refine Nn h1 g1 (fun hne=>?_) (fun heq=>?_)
  · refine ⟨?_,oneLt_str h⟩
    have e:=(eqGives_str t.2.1 u.2.1 tk tk2).at A s
    have:(t.2.1 == u.2.1)=false:=by simpa using hd hne
    rw [this] at e
    exact e
  · refine ⟨?_,?_,?_⟩
    · have e:=(eqGives_str t.2.1 t.2.1 tk tk).at A s
      simpa using e
    · have e:=SeqAt.eqAt_reads _ _ A s _ _ _ _ h4 h4 lay lay (by omega)
      rw [UC _ lay] at e
      exact e
    · have e1:t.2.1=u.2.1:=by
        obtain ⟨o,e,_,n,d⟩:=h1
        obtain ⟨o2,e2,_,n2,d2⟩:=g1
        rw [heq,e2] at e
        cases e
        rw [d] at d2
        injection d2 with z1 z2
        have z3:[Value.str t.2.1 tk,Value.ref t.2.2.1]=[Value.str u.2.1 tk2,Value.ref u.2.2.1]:=by simpa using congrArg Array.toList z1
        injection z3 with z4 z5
        injection z4
      rw [← e1,decide_eq_false (List.lt_irrefl _)] at h
      exact h
end
section
variable {X:Cx}
theorem Xs (hu:X.A.units + 4 < cLine):Zw X (.builtin "sorted") (fun xs H Q=>∃ (l:Addr) (ts:List PNx),xs=[.ref l]∧SqL X.K H l (ts.map fun t=>V.ref t.1)∧(∀ t ∈ ts,SqT X.K H t.1 [.str t.2.1,.ref t.2.2.1]∧SqT X.K H t.2.2.1 (t.2.2.2.map V.str)∧∀ x ∈ t.2.2.2,PyData.strOk x=true)∧(ts.map fun t=>t.2.1).Nodup∧ts.length < 64 ∧
    ∀ (out:List PNx) p,out.Perm ts→(out.Pairwise fun x y=>¬ y.2.1.cps.toList < x.2.1.cps.toList)→H p=none→Q (.ref p) (upd H p (.lst (out.map fun t=>V.ref t.1)))):=by
  intro pins s σ H xs us Q I r h
  obtain ⟨l,ts,rfl,hl,ht,hnd,h64,q⟩:=h
  cases r with
  | cons r rr =>
    cases rr
    obtain rfl:_=Value.ref l:=r
    obtain ⟨its,rv,p,_⟩:=I.list hl
    obtain rfl:=Yg rv
    have hP:∀ t ∈ ts,PairN s.heap t:=fun t htm=>by
      obtain ⟨h1,h2,_⟩:=ht t htm
      obtain ⟨its1,r1,p1,_⟩:=I.tuple h1
      obtain ⟨u,v,rfl,ru,rv⟩:=r1.two
      cases (show v=Value.ref _ from rv)
      obtain ⟨tk,rfl⟩:=(show ∃ tk,u=Value.str _ tk from ru)
      obtain ⟨as,q4⟩:=(RdV.tup h2 (YD _)).reads I (show RelV (.ref t.2.2.1) (.ref t.2.2.1) from rfl)
      exact ⟨tk,as,p1,q4⟩
    let d:PNx:=(0,⟨#[]⟩,0,[])
    have gd:∀ i,i < ts.length→(ts.map fun t=>Value.ref t.1).getD i Value.none=.ref (ts.getD i d).1:=fun i hi=>by simp [List.getD_eq_getElem?_getD,hi]
    have md:∀ i,i < ts.length→ts.getD i d ∈ ts:=fun i hi=>by simp [List.getD_eq_getElem?_getD,hi]
    have ek:(Value.type "str" != Value.type "tuple")=true:=by decide +kernel
    refine W5 strOrd (fun i=>(ts.getD i d).2.1.cps.toList) (tuples' true) p.isList (by simpa using h64) (fun s' E' Q' hs h2 hq=>?_) (fun s' i j C hs hi hj hC=>?_) fun pp o1 o2=>?_
    · obtain ⟨fs,f1,f2,f3⟩:=Jh (h:=s'.heap) fun t htm=>(hP t htm).keeps hs
      refine kat_kind (T:=.type "str") f1 (by rw [f3];rw [List.length_map] at h2;omega) (fun v hv=>?_) (by decide +kernel) (by rw [ek];exact hq)
      obtain ⟨x,t,rfl⟩:=f2 v hv
      exact .now
    · rw [List.length_map] at hi hj
      rw [gd i hi,gd j hj]
      refine Lx ((hP _ (md i hi)).keeps hs) ((hP _ (md j hj)).keeps hs) (ht _ (md i hi)).2.2 (fun hne he=>hne ?_) (by show X.A.units + 1 + 1 + 2 < cLine;omega) hC
      have hij:i=j:=by
        have a1:(ts.map fun t=>t.2.1)[i]'(by simpa using hi)=(ts.getD i d).2.1:=by simp [List.getD_eq_getElem?_getD,hi]
        have a2:(ts.map fun t=>t.2.1)[j]'(by simpa using hj)=(ts.getD j d).2.1:=by simp [List.getD_eq_getElem?_getD,hj]
        exact (List.getElem_inj hnd).mp (a1.trans (he.trans a2.symm))
      rw [hij]
    · rw [List.length_map] at o1 o2
      obtain ⟨w1,w2⟩:=NF (O:=strOrd) (ts:=ts) (d:=d) (key:=fun t=>t.2.1.cps.toList) o1 o2
      have em:(pp.toList.map fun i=>(ts.map fun t=>Value.ref t.1).getD i Value.none)=(pp.toList.map fun i=>ts.getD i d).map fun t=>Value.ref t.1:=by
        rw [List.map_map]
        refine List.map_congr_left fun i hi=>?_
        exact gd i (List.mem_range.mp (o1.mem_iff.mp hi))
      rw [em]
      generalize pp.toList.map (fun i=>ts.getD i d)=out at w1 w2
      obtain ⟨e,he⟩:=sortedAll_at s.heap (ts.map fun t=>Value.ref t.1) (out.map fun t=>Value.ref t.1).toArray
      have hfr:H (s.heap.objs.size + 1)=none:=I.hok.fresh (Nat.le_succ _)
      refine ⟨.ref (s.heap.objs.size + 1),_,I.laid (t':=s.toks) (o:=.lst (out.map fun t=>V.ref t.1)) (fun b o g=>sortedAll_old g) (Nat.le_succ _) ?_,rfl,q out _ w1 (w2.imp fun h=>by simpa using h) hfr⟩
      exact ⟨by rw [List.length_map,w1.length_eq,sizeLine_eq];omega,_,e,JO out,he⟩
end
end L2
namespace L2
open PySem PySem.Spec PyProof.Rows
section
variable {prog:Program} {w:World} {A:Around} {E:Value→Shared→Prop} {s:Shared} {it t:Addr} {i:Nat} {its:Array Value} {x:Value} {Q:Value→Shared→Prop}
theorem ZU (hi:s.heap.IsTupleIter it t i) (ht:s.heap.IsTuple t its) (hx:its[i]?=some x) (q:∀ h',h'.IsTupleIter it t (i + 1)→Heap.SameBut it s.heap h'→Q x { s with heap:=h' }) :
    wpAny (model prog w) A (Builtin.SmallTypes.nextOf (.ref it)) Q E s:=by
  obtain ⟨oi,gi,ci,di⟩:=id hi
  obtain ⟨ot,gt,_,nt,dt⟩:=ht
  unfold Builtin.SmallTypes.nextOf
  refine wpAny_bind (wpAny_callSpecial?_slot (name:=Str.ofString "__next__") hi.typeIs F.slot_tuple_iterator_next (wpAny_call_entry F.slot_tuple_iterator_next hi.typeIs F.entry_tuple_iterator_next ?_ (F.args_tuple_iterator_next_1 _)))
  show wpAny _ _ (field (.ref it) 0 >>= _) _ _ s
  refine wpAny_bind (wpAny_field gi di (x:=.ref t) rfl ?_)
  show wpAny _ _ (if (Value.ref t == Value.none)=true then _ else _) _ _ s
  rw [if_neg (show ¬ ((Value.ref t == Value.none)=true) from Bool.false_ne_true)]
  show wpAny _ _ (field (.ref it) 1 >>= _) _ _ s
  refine wpAny_bind (wpAny_field gi di (x:=.int i 0) rfl ?_)
  show wpAny _ _ (seqItems? (.ref t) >>= _) _ _ s
  refine wpAny_bind (wpAny_seqItems gt dt ?_)
  simp only [Int.toNat_natCast,hx]
  refine wpAny_bind (wpAny_setField gi di (by simp) (wpAny_pure ⟨x,rfl,wpAny_pure (q _ ⟨_,Heap.get?_update_self _ gi (Obj.isFreed_of_fields (Obj.data_mapFields di _)),(Obj.cls_mapFields ..).trans ci,?_⟩ (Heap.SameBut.update ..))⟩))
  rw [Obj.data_mapFields di];simp [rawInt]
theorem Uc (hh:A.handled=none) (hi:s.heap.IsTupleIter it t i) (ht:s.heap.IsTuple t its) (hx:its[i]?=none)
    (q:∀ h' e,Heap.ExtBut it s.heap h'→(∃ o,h'.get? e=some o∧o.cls=.type "StopIteration")→E (.ref e) { s with heap:=h' }):wpAny (model prog w) A (Builtin.SmallTypes.nextOf (.ref it)) Q E s:=by
  obtain ⟨oi,gi,ci,di⟩:=id hi
  obtain ⟨ot,gt,_,nt,dt⟩:=ht
  unfold Builtin.SmallTypes.nextOf
  refine wpAny_bind (wpAny_callSpecial?_slot (name:=Str.ofString "__next__") hi.typeIs F.slot_tuple_iterator_next (wpAny_call_entry F.slot_tuple_iterator_next hi.typeIs F.entry_tuple_iterator_next ?_ (F.args_tuple_iterator_next_1 _)))
  show wpAny _ _ (field (.ref it) 0 >>= _) _ _ s
  refine wpAny_bind (wpAny_field gi di (x:=.ref t) rfl ?_)
  show wpAny _ _ (if (Value.ref t == Value.none)=true then _ else _) _ _ s
  rw [if_neg (show ¬ ((Value.ref t == Value.none)=true) from Bool.false_ne_true)]
  show wpAny _ _ (field (.ref it) 1 >>= _) _ _ s
  refine wpAny_bind (wpAny_field gi di (x:=.int i 0) rfl ?_)
  show wpAny _ _ (seqItems? (.ref t) >>= _) _ _ s
  refine wpAny_bind (wpAny_seqItems gt dt ?_)
  simp only [Int.toNat_natCast,hx]
  refine wpAny_bind (wpAny_rule (wpAny_bind (wpAny_setField gi di (by simp) ?_)))
  show wpAny _ _ (newExc (.type "StopIteration") [] >>= _) _ _ _
  simp only [newExc,newTuple]
  refine wpAny_bind (wpAny_bind (wpAny_newObj_type (wpAny_bind (m:=firstArgMember _ _) (wpAny_of_eq (a:=Value.none) (by first | rfl | (simp only [firstArgMember];rfl)) (wpAny_newObj_type ?_ (by size_fits)))) (by size_fits)))
  simp only [raiseNew]
  refine wpAny_bind (wpAny_handled ?_)
  first | rw [show A.in1.handled=none from hh] | rw [hh]
  exact wpAny_bind (wpAny_pure (wpAny_throw (q _ _ (((Heap.SameBut.update ..).extBut.push _).push _) ⟨_,Heap.get?_push_size _ rfl,rfl⟩)))
end
section
variable {X:Cx} {elts:List Expr} {k1:Nat} {tpos:Pos}
end
end L2
namespace L2
open PySem PySem.Spec PyProof.Rows
section
variable {prog:Program} {w:World} {A:Around} {E:Value→Shared→Prop} {s:Shared}
theorem Gk {zp ti tu j1 j2 t1 t2:Addr} {n1 n2:Nat} {us vs:Array Value} {p q c d:Value} {Q:Value→Shared→Prop} (Ap:ZipApart zp ti tu j1 j2 t1 t2)
    (gz:IsZip s.heap zp ti tu .none) (gi:IsPair s.heap ti (.ref j1) (.ref j2)) (gu:IsPair s.heap tu c d)
    (w1:s.heap.IsTupleIter j1 t1 n1) (w2:s.heap.IsTupleIter j2 t2 n2) (l1:s.heap.IsTuple t1 us) (l2:s.heap.IsTuple t2 vs) (ep:us[n1]?=some p) (eq:vs[n2]?=some q)
    (k:∀ h',IsZip h' zp ti tu (rawInt s.heap.objs.size)→IsPair h' tu p q→h'.IsTupleIter j1 t1 (n1 + 1)→h'.IsTupleIter j2 t2 (n2 + 1)→IsPair h' s.heap.objs.size p q →
      (∀ b o,b≠zp→b≠tu→b≠j1→b≠j2→s.heap.get? b=some o→h'.get? b=some o)→Q (.ref s.heap.objs.size) { s with heap:=h' }) :
    wpAny (model prog w) A (Builtin.«zip.__next__» ⟨[.ref zp],[]⟩) (fun fin s'=>∃ v,fin=.done (.ret v)∧Q v s') E s:=by
  show wpAny _ _ (field (.ref zp) 2 >>= _) _ _ _
  refine wpAny_bind (wpAny_field gz rfl (x:=.bool false) rfl ?_)
  show wpAny _ _ (field (.ref zp) 3 >>= _) _ _ _
  refine wpAny_bind (wpAny_field gz rfl (x:=.ref ti) rfl ?_)
  refine wpAny_bind (wpAny_seqItems gi rfl ?_)
  show wpAny _ _ (Builtin.SmallTypes.ownedTupleIsFree (.ref zp) >>= _) _ _ _
  refine wpAny_bind ?_;(unfold Builtin.SmallTypes.ownedTupleIsFree);refine wpAny_bind (wpAny_field gz rfl (x:=.none) rfl (wpAny_pure ?_))
  simp only [if_true]
  refine wpAny_bind (wpAny_rule (wpAny_bind (wpAny_field gz rfl (x:=.ref tu) rfl ?_)))
  refine wpAny_bind (wpAny_setField_rec gz (by simp) fun ha gza sa=>?_)
  replace gza:IsZip ha zp ti tu .ellipsis:=gza
  refine wpAny_bind ?_
  simp only [List.forIn_cons,List.forIn_nil,List.zipIdx_cons,List.zipIdx_nil]
  refine wpAny_bind (wpAny_bind (wpAny_onRaise ?_))
  show wpAny _ _ (Builtin.SmallTypes.nextOf (.ref j1) >>= _) _ _ _
  refine wpAny_bind (ZU (w1.extBut sa.extBut Ap.i1z) (l1.extBut sa.extBut Ap.l1z) ep fun hb w1b sb=>wpAny_pure ?_)
  have gub:IsPair hb tu c d:=sb.extBut _ _ Ap.TOi1 (sa.extBut _ _ Ap.TOz gu)
  refine wpAny_bind (wpAny_seqItems gub rfl (wpAny_bind (wpAny_updateSeq_pair gub fun hc guc sc=>?_)))
  replace guc:IsPair hc tu p d:=guc
  refine wpAny_bind (wpAny_letGo (wpAny_pure (wpAny_bind (wpAny_bind (wpAny_onRaise ?_)))))
  show wpAny _ _ (Builtin.SmallTypes.nextOf (.ref j2) >>= _) _ _ _
  refine wpAny_bind (ZU (((w2.extBut sa.extBut Ap.i2z).extBut sb.extBut Ap.i12.symm).extBut sc.extBut Ap.TOi2.symm) (((l2.extBut sa.extBut Ap.l2z).extBut sb.extBut Ap.l2i1).extBut sc.extBut Ap.l2TO) eq fun hd w2d sd=>wpAny_pure ?_)
  have gud:IsPair hd tu p d:=sd.extBut _ _ Ap.TOi2 guc
  refine wpAny_bind (wpAny_seqItems gud rfl (wpAny_bind (wpAny_updateSeq_pair gud fun he gue se=>?_)))
  replace gue:IsPair he tu p q:=gue
  refine wpAny_bind (wpAny_letGo (wpAny_pure (wpAny_pure (wpAny_bind (wpAny_seqItems gue rfl (wpAny_bind (wpAny_newTuple ?_)))))))
  have size5:he.objs.size=s.heap.objs.size:=by rw [se.1,sd.1,sc.1,sb.1,sa.1]
  have gze:IsZip he zp ti tu .ellipsis:=se.extBut _ _ Ap.TOz.symm (sd.extBut _ _ Ap.i2z.symm (sc.extBut _ _ Ap.TOz.symm (sb.extBut _ _ Ap.i1z.symm gza)))
  have kept5:∀ b o,b≠zp→b≠tu→b≠j1→b≠j2→s.heap.get? b=some o→he.get? b=some o:=fun b o b1 b2 b3 b4 e=>se.extBut _ _ b2 (sd.extBut _ _ b4 (sc.extBut _ _ b2 (sb.extBut _ _ b3 (sa.extBut _ _ b1 e))))
  have w1e:he.IsTupleIter j1 t1 (n1 + 1):=((w1b.extBut sc.extBut Ap.TOi1.symm).extBut sd.extBut Ap.i12).extBut se.extBut Ap.TOi1.symm
  have w2e:he.IsTupleIter j2 t2 (n2 + 1):=w2d.extBut se.extBut Ap.TOi2.symm
  have lz:zp < he.objs.size:=Heap.lt_size gze
  show wpAny _ _ (Builtin.SmallTypes.ownedTupleHandOut (.ref zp) (.ref he.objs.size) >>= _) _ _ _
  refine wpAny_bind ?_;(unfold Builtin.SmallTypes.ownedTupleHandOut)
  have gzf:IsZip (he.push { cls:=.type "tuple", data:=.seq #[p,q] }) zp ti tu .ellipsis:=Heap.get?_push_of_some _ gze
  refine wpAny_bind (wpAny_setField_rec gzf (by simp) fun hg gzg sg=>?_)
  replace gzg:IsZip hg zp ti tu (rawInt he.objs.size):=gzg
  refine wpAny_setField_rec gzg (by simp) fun hh gzh sh=>?_
  replace gzh:IsZip hh zp ti tu (rawInt he.objs.size):=gzh
  have upw:∀ b o,b≠zp→he.get? b=some o→hh.get? b=some o:=fun b o b1 e=>sh.extBut _ _ b1 (sg.extBut _ _ b1 (Heap.get?_push_of_some _ e))
  have gnew:IsPair hh he.objs.size p q:=sh.extBut _ _ (Nat.ne_of_gt lz) (sg.extBut _ _ (Nat.ne_of_gt lz) (Heap.get?_push_size _ rfl))
  rw [size5] at gzh gnew
  refine wpAny_pure ⟨_,rfl,?_⟩
  show Q (.ref he.objs.size) _
  rw [size5]
  exact k hh gzh (upw _ _ Ap.TOz gue) (w1e.at fun o e=>upw _ o Ap.i1z e) (w2e.at fun o e=>upw _ o Ap.i2z e) gnew fun b o b1 b2 b3 b4 e=>upw b o b1 (kept5 b o b1 b2 b3 b4 e)
theorem GK {zp ti tu j1 j2 t1 t2:Addr} {n1 n2:Nat} {us vs:Array Value} {c d:Value} {Q:Fin→Shared→Prop} (hh:A.handled=none) (Ap:ZipApart zp ti tu j1 j2 t1 t2)
    (gz:IsZip s.heap zp ti tu .none) (gi:IsPair s.heap ti (.ref j1) (.ref j2)) (gu:IsPair s.heap tu c d)
    (w1:s.heap.IsTupleIter j1 t1 n1) (l1:s.heap.IsTuple t1 us) (ep:us[n1]?=none)
    (k:∀ h' e,(∀ b o,b≠zp→b≠tu→b≠j1→b≠j2→s.heap.get? b=some o→h'.get? b=some o)→(∃ o,h'.get? e=some o∧o.cls=.type "StopIteration")→E (.ref e) { s with heap:=h' }) :
    wpAny (model prog w) A (Builtin.«zip.__next__» ⟨[.ref zp],[]⟩) Q E s:=by
  show wpAny _ _ (field (.ref zp) 2 >>= _) _ _ _
  refine wpAny_bind (wpAny_field gz rfl (x:=.bool false) rfl ?_)
  show wpAny _ _ (field (.ref zp) 3 >>= _) _ _ _
  refine wpAny_bind (wpAny_field gz rfl (x:=.ref ti) rfl ?_)
  refine wpAny_bind (wpAny_seqItems gi rfl ?_)
  show wpAny _ _ (Builtin.SmallTypes.ownedTupleIsFree (.ref zp) >>= _) _ _ _
  refine wpAny_bind ?_;(unfold Builtin.SmallTypes.ownedTupleIsFree);refine wpAny_bind (wpAny_field gz rfl (x:=.none) rfl (wpAny_pure ?_))
  simp only [if_true]
  refine wpAny_bind (wpAny_rule (wpAny_bind (wpAny_field gz rfl (x:=.ref tu) rfl ?_)))
  refine wpAny_bind (wpAny_setField_rec gz (by simp) fun ha gza sa=>?_)
  replace gza:IsZip ha zp ti tu .ellipsis:=gza
  refine wpAny_bind ?_
  simp only [List.forIn_cons,List.forIn_nil,List.zipIdx_cons,List.zipIdx_nil]
  refine wpAny_bind (wpAny_bind (wpAny_onRaise ?_))
  show wpAny _ _ (Builtin.SmallTypes.nextOf (.ref j1) >>= _) _ _ _
  refine wpAny_bind (Uc hh (w1.extBut sa.extBut Ap.i1z) (l1.extBut sa.extBut Ap.l1z) ep fun hb e sb ge=>?_)
  obtain ⟨oe,hoe,hce⟩:=ge
  have gzb:IsZip hb zp ti tu .ellipsis:=sb _ _ Ap.i1z.symm gza
  have nez:e≠zp:=fun x=>by subst x;rw [gzb] at hoe;cases hoe;simp at hce
  refine wpAny_setField_rec gzb (by simp) fun hc _ sc=>k hc e (fun b o b1 _ b3 _ x=>sc.extBut _ _ b1 (sb _ _ b3 (sa.extBut _ _ b1 x))) ⟨oe,sc.extBut _ _ nez hoe,hce⟩
theorem Y1 {zp ti tu j1 j2 t1 t2:Addr} {n1 n2:Nat} {us vs:Array Value} {p q c d:Value} {Q:Option Value→Shared→Prop} (Ap:ZipApart zp ti tu j1 j2 t1 t2)
    (gz:IsZip s.heap zp ti tu .none) (gi:IsPair s.heap ti (.ref j1) (.ref j2)) (gu:IsPair s.heap tu c d)
    (w1:s.heap.IsTupleIter j1 t1 n1) (w2:s.heap.IsTupleIter j2 t2 n2) (l1:s.heap.IsTuple t1 us) (l2:s.heap.IsTuple t2 vs) (ep:us[n1]?=some p) (eq:vs[n2]?=some q)
    (k:∀ h',IsZip h' zp ti tu (rawInt s.heap.objs.size)→IsPair h' tu p q→h'.IsTupleIter j1 t1 (n1 + 1)→h'.IsTupleIter j2 t2 (n2 + 1)→IsPair h' s.heap.objs.size p q →
      (∀ b o,b≠zp→b≠tu→b≠j1→b≠j2→s.heap.get? b=some o→h'.get? b=some o)→Q (some (.ref s.heap.objs.size)) { s with heap:=h' }) :
    wpAny (model prog w) A (pyNext (.ref zp)) Q E s:=by
  have tz:s.TypeIs (.ref zp) "zip" := ⟨_,gz,rfl⟩
  unfold pyNext
  exact wpAny_bind (wpAny_attempt (wpAny_callSpecial?_slot (name:=Str.ofString "__next__") tz F.slot_zip_next (wpAny_call_entry F.slot_zip_next tz F.entry_zip_next (Gk Ap gz gi gu w1 w2 l1 l2 ep eq fun h' a1 a2 a3 a4 a5 a6=>wpAny_pure (k h' a1 a2 a3 a4 a5 a6)) (F.args_zip_next_1 _))))
theorem Uj {zp ti tu j1 j2 t1 t2:Addr} {n1 n2:Nat} {us:Array Value} {c d:Value} {Q:Option Value→Shared→Prop} (hh:A.handled=none) (Ap:ZipApart zp ti tu j1 j2 t1 t2)
    (gz:IsZip s.heap zp ti tu .none) (gi:IsPair s.heap ti (.ref j1) (.ref j2)) (gu:IsPair s.heap tu c d) (w1:s.heap.IsTupleIter j1 t1 n1) (l1:s.heap.IsTuple t1 us) (ep:us[n1]?=none)
    (k:∀ h',(∀ b o,b≠zp→b≠tu→b≠j1→b≠j2→s.heap.get? b=some o→h'.get? b=some o)→Q none { s with heap:=h' }):wpAny (model prog w) A (pyNext (.ref zp)) Q E s:=by
  have tz:s.TypeIs (.ref zp) "zip" := ⟨_,gz,rfl⟩
  unfold pyNext
  refine wpAny_bind (wpAny_attempt (wpAny_callSpecial?_slot (name:=Str.ofString "__next__") tz F.slot_zip_next (wpAny_call_entry F.slot_zip_next tz F.entry_zip_next (GK hh (n2:=n2) (vs:=us) Ap gz gi gu w1 l1 ep fun h' e hk ge=>?_) (F.args_zip_next_1 _))))
  obtain ⟨o,ho,hc⟩:=ge
  exact wpAny_bind (wpAny_isInstance (T:="StopIteration") (b:=true) ⟨o,ho,hc⟩ isSubtype_stop (wpAny_pure (k _ hk)))
abbrev zT1 (h:Heap) (t1:Addr):Heap:=h.push { cls:=.type "tuple_iterator", data:=.fields #[.ref t1,.int 0 0] }
abbrev zT2 (h:Heap) (t1 t2:Addr):Heap:=(zT1 h t1).push { cls:=.type "tuple_iterator", data:=.fields #[.ref t2,.int 0 0] }
abbrev zT3 (h:Heap) (t1 t2:Addr):Heap:=(zT2 h t1 t2).push { cls:=.type "tuple", data:=.seq #[.ref h.objs.size,.ref (zT1 h t1).objs.size] }
abbrev zT4 (h:Heap) (t1 t2:Addr):Heap:=(zT3 h t1 t2).push { cls:=.type "tuple", data:=.seq #[.none,.none] }
abbrev zT5 (h:Heap) (t1 t2:Addr):Heap:=(zT4 h t1 t2).push { cls:=.type "zip", data:=.fields #[.none,.bool false,.bool false,.ref (zT2 h t1 t2).objs.size,.ref (zT3 h t1 t2).objs.size] }
theorem G1 (t1 t2:Addr) (us vs:Array Value) :
    Meets (Builtin.«zip.__new__» ⟨[.type "zip", .ref t1,.ref t2],[]⟩) (fun _ R s=>s.heap.IsTuple t1 us∧s.heap.IsTuple t2 vs ∧
      R (.ok (.ret (.ref (zT4 s.heap t1 t2).objs.size))) { s with heap:=zT5 s.heap t1 t2 }) :=
  .of_wp fun prog w A R s h=>by
    obtain ⟨hp,g,d,tk,os⟩:=s;obtain ⟨l1,l2,h⟩:=h
    have hsub:=sub_zip
    have L1:Heap.IsTuple (Shared.heap ⟨hp,g,d,tk,os⟩) t1 us:=l1
    have L2:Heap.IsTuple (Shared.heap ⟨hp.push { cls:=.type "tuple_iterator", data:=.fields #[.ref t1,.int 0 0] },g,d,tk,os⟩) t2 vs:=let ⟨o,e,r⟩:=l2;⟨o,Heap.get?_push_of_some _ e,r⟩
    wp_walk using wpAny_pyIter_tuple L1,wpAny_pyIter_tuple L2
    exact ⟨_,rfl,h⟩
theorem V5 {t1 t2:Addr} {us vs:Array Value} {Q:Value→Shared→Prop} (l1:s.heap.IsTuple t1 us) (l2:s.heap.IsTuple t2 vs)
    (h:∀ h',IsZip h' (s.heap.objs.size + 4) (s.heap.objs.size + 2) (s.heap.objs.size + 3) .none→IsPair h' (s.heap.objs.size + 2) (.ref s.heap.objs.size) (.ref (s.heap.objs.size + 1)) →
      IsPair h' (s.heap.objs.size + 3) .none .none→h'.IsTupleIter s.heap.objs.size t1 0→h'.IsTupleIter (s.heap.objs.size + 1) t2 0 →
      (∀ c o,s.heap.get? c=some o→h'.get? c=some o)→Q (.ref (s.heap.objs.size + 4)) { s with heap:=h' }) :
    wpAny (model prog w) A (call (.type "zip") [.ref t1,.ref t2]) Q E s:=by
  refine callType_new F.called_zip (by decide) (F.typeCall_zip_2 _ _) (F.newCall_zip_2 _ _) (fun obj=>F.args_object_init_3 obj _ _) F.entry_zip_new (G1 t1 t2 us vs) ⟨l1,l2,?_⟩
  have q1:(zT1 s.heap t1).objs.size=s.heap.objs.size + 1:=Heap.size_push ..
  have q2:(zT2 s.heap t1 t2).objs.size=s.heap.objs.size + 2:=by rw [Heap.size_push,q1]
  have q3:(zT3 s.heap t1 t2).objs.size=s.heap.objs.size + 3:=by rw [Heap.size_push,q2]
  have q4:(zT4 s.heap t1 t2).objs.size=s.heap.objs.size + 4:=by rw [Heap.size_push,q3]
  have r5:(zT5 s.heap t1 t2).get? (zT4 s.heap t1 t2).objs.size=some _:=Heap.get?_push_size _ rfl
  have r4:(zT5 s.heap t1 t2).get? (zT3 s.heap t1 t2).objs.size=some _:=Heap.get?_push_of_some _ (Heap.get?_push_size _ rfl)
  have r3:(zT5 s.heap t1 t2).get? (zT2 s.heap t1 t2).objs.size=some _:=Heap.get?_push_of_some _ (Heap.get?_push_of_some _ (Heap.get?_push_size _ rfl))
  have r2:(zT5 s.heap t1 t2).get? (zT1 s.heap t1).objs.size=some _:=Heap.get?_push_of_some _ (Heap.get?_push_of_some _ (Heap.get?_push_of_some _ (Heap.get?_push_size _ rfl)))
  have r1:(zT5 s.heap t1 t2).get? s.heap.objs.size=some _:=Heap.get?_push_of_some _ (Heap.get?_push_of_some _ (Heap.get?_push_of_some _ (Heap.get?_push_of_some _ (Heap.get?_push_size _ rfl))))
  show _∧_
  rw [q2,q3,q4] at r5
  rw [q1,q2] at r3
  rw [q3] at r4
  rw [q1] at r2
  rw [q4]
  exact ⟨⟨_,r5,rfl⟩,h _ r5 r3 r4 ⟨_,r1,rfl,rfl⟩ ⟨_,r2,rfl,rfl⟩ fun b o x=>Heap.get?_push_of_some _ (Heap.get?_push_of_some _ (Heap.get?_push_of_some _ (Heap.get?_push_of_some _ (Heap.get?_push_of_some _ x))))⟩
end
def Gj (K:PySem.W.Frag) (a b:Addr) (xs ys:List V):It :=
  ⟨fun i H=>SqT K H a xs∧SqT K H b ys∧i < xs.length∧i < ys.length,
   fun i H x H'=>∃ p u v,H p=none∧x=.ref p∧H'=upd H p (.tup [u,v])∧xs[i]?=some u∧ys[i]?=some v,
   fun i H=>SqT K H a xs∧xs.length≤i⟩
theorem Gf {P:Program} {w:World} {K:PySem.W.Frag} {elts:List Expr} {k1:Nat} {pos:Pos} (a b z:Addr) (xs ys:List V) (TI TO i1 i2:Addr) (Ap:ZipApart z TI TO i1 i2 a b) :
    Turn P w K (.Tuple elts k1 pos) (Gj K a b xs ys) [z,TI,TO,i1,i2] z (fun i h=>IsZip h z TI TO .none∧IsPair h TI (.ref i1) (.ref i2)∧(∃ u v,IsPair h TO u v)∧h.IsTupleIter i1 a i∧h.IsTupleIter i2 b i) where
  mem:=by simp
  obj:=fun i h st c hc=>by
    obtain ⟨hz,hTI,⟨u,v,hTO⟩,h1,h2⟩:=st
    simp only [List.mem_cons,List.mem_nil_iff,or_false] at hc
    rcases hc with rfl | rfl | rfl | rfl | rfl
    · exact ⟨_,hz,fun v z=>by have z':Data.fields _=Data.cell v:=z;cases z'⟩
    · exact ⟨_,hTI,fun v z=>by have z':Data.seq _ _=Data.cell v:=z;cases z'⟩
    · exact ⟨_,hTO,fun v z=>by have z':Data.seq _ _=Data.cell v:=z;cases z'⟩
    · obtain ⟨o,e,c,d⟩:=h1;exact ⟨o,e,fun v z=>by rw [d] at z;cases z⟩
    · obtain ⟨o,e,c,d⟩:=h2;exact ⟨o,e,fun v z=>by rw [d] at z;cases z⟩
  keep:=fun i h h' st k=>by
    obtain ⟨hz,hTI,⟨u,v,hTO⟩,h1,h2⟩:=st
    exact ⟨k z (by simp) _ hz,k TI (by simp) _ hTI,⟨u,v,k TO (by simp) _ hTO⟩,h1.at fun o e=>k i1 (by simp) o e,h2.at fun o e=>k i2 (by simp) o e⟩
  item:=by
    intro X hP hw hK hc i pins s σ H E I hf st hg
    subst hP hw hK
    obtain ⟨hz,hTI,⟨u0,v0,hTO⟩,h1,h2⟩:=st
    obtain ⟨qa,qb,lx,ly⟩:=hg
    obtain ⟨its,rv,p,_⟩:=I.tuple qa
    obtain ⟨its2,rv2,p2,_⟩:=I.tuple qb
    have ex:xs[i]?=some xs[i]:=List.getElem?_eq_getElem lx
    have ey:ys[i]?=some ys[i]:=List.getElem?_eq_getElem ly
    obtain ⟨u,hu,ru⟩:=rv.get ex
    obtain ⟨v,hv,rv'⟩:=rv2.get ey
    refine Y1 Ap hz hTI hTO h1 h2 p p2 (p:=u) (q:=v) (by simpa using hu) (by simpa using hv) fun h' a1 a2 a3 a4 a5 hk=>?_
    refine ⟨.ref s.heap.objs.size,rfl,wpAny_letOwnedTupleGo_zip (s:={ s with heap:=h' }) a1 fun h'' hz' hs'=>?_⟩
    have lt:∀ {c o},s.heap.get? c=some o→c≠s.heap.objs.size:=fun e=>Nat.ne_of_lt (Heap.lt_size e)
    have e5:IsPair h'' s.heap.objs.size u v:=(hs'.2 _ (Ne.symm (lt hz))).trans a5
    have hch:∀ c ∈ [z,TO,i1,i2],Yx X pins H c:=fun c hc=>hf c (by
      simp only [List.mem_cons,List.mem_nil_iff,or_false] at hc ⊢
      rcases hc with rfl | rfl | rfl | rfl <;> simp)
    have I2:Inv X pins σ (upd H s.heap.objs.size (.tup [xs[i],ys[i]])) { s with heap:=h'',toks:=s.toks }:=by
      refine I.turnedNew (ch:=[z,TO,i1,i2]) (fun c o hc e=>?_) hch (Nat.le_refl _) ⟨by show 2≤sizeLine;decide,[u,v],.cons ru (.cons rv' .nil),⟨_,e5,rfl,_,rfl⟩⟩
      simp only [List.mem_cons,List.mem_nil_iff,or_false,not_or] at hc
      exact (hs'.2 c hc.1).trans (hk c o hc.1 hc.2.1 hc.2.2.1 hc.2.2.2 e)
    have hfr:∀ c ∈ [z,TI,TO,i1,i2],upd H s.heap.objs.size (.tup [xs[i],ys[i]]) c=none:=fun c hc=>by
      have hc2:=hf c hc
      have:c≠s.heap.objs.size:=by
        simp only [List.mem_cons,List.mem_nil_iff,or_false] at hc
        rcases hc with rfl | rfl | rfl | rfl | rfl
        · exact lt hz
        · exact lt hTI
        · exact lt hTO
        · obtain ⟨o,e,_⟩:=h1;exact lt e
        · obtain ⟨o,e,_⟩:=h2;exact lt e
      rw [Qg this];exact hc2.1
    exact ⟨.ref s.heap.objs.size,_,I2,rfl,⟨s.heap.objs.size,_,_,I.fresh,rfl,rfl,ex,ey⟩,⟨hz',hs'.extBut _ _ Ap.TIz (hk _ _ Ap.TIz Ap.TITO Ap.TIi1 Ap.TIi2 hTI),⟨_,_,hs'.extBut _ _ Ap.TOz a2⟩,a3.extBut hs'.extBut Ap.i1z,a4.extBut hs'.extBut Ap.i2z⟩,hfr⟩
  done:=by
    intro X hP hw hK hc i pins s σ H E I hf st hg
    subst hP hw hK
    obtain ⟨hz,hTI,⟨u0,v0,hTO⟩,h1,h2⟩:=st
    obtain ⟨qa,hl⟩:=hg
    obtain ⟨its,rv,p,_⟩:=I.tuple qa
    have l1:=rv.length
    have hch:∀ c ∈ [z,TO,i1,i2],Yx X pins H c:=fun c hc=>hf c (by
      simp only [List.mem_cons,List.mem_nil_iff,or_false] at hc ⊢
      rcases hc with rfl | rfl | rfl | rfl <;> simp)
    refine Uj (n2:=0) (I.ok.hd hc) Ap hz hTI hTO h1 p (by simp;omega) fun h' hk=>⟨rfl,I.turnedL (t':=s.toks) (ch:=[z,TO,i1,i2]) (fun c o hc e=>?_) hch⟩
    simp only [List.mem_cons,List.mem_nil_iff,or_false,not_or] at hc
    exact hk c o hc.1 hc.2.1 hc.2.2.1 hc.2.2.2 e
  self:=fun _ _ _ _ _ st h=>wpAny_pyIter_zip st.1 h
section
variable {X:Cx} {elts:List Expr} {k1:Nat} {tpos:Pos}
def Py (K:PySem.W.Frag) (ta:TA):TI:=fun σ H R=>ta σ H fun vs H1=>∃ a b xs ys,vs=[.ref a,.ref b]∧SqT K H1 a xs∧SqT K H1 b ys∧R (Gj K a b xs ys) H1
theorem W8 {e1 e2:Expr} {ta:TA} {p pos:Pos} (hg:Gl X "zip") (hm:X.mg "zip" = none) (ha:PA X [e1,e2] ta) (hs:starEach [e1,e2] X.env=[(false,eval e1 X.env),(false,eval e2 X.env)]:=by rfl) (hs2:starEach [e2] X.env=[(false,eval e2 X.env)]:=by rfl) :
    PI X (.Tuple elts k1 tpos) (.Call (.Name "zip" p) [e1,e2] [] pos) (Py X.K ta):=by
  intro pins s σ H R I h
  refine Call_ (ZS I hg hm PyProof.Rows.boot_zip (PyProof.Rows.callWith_type1 (thn (ha pos pins s σ H _ I h) fun us s1 ⟨vs,H1,I1,r1,q1⟩=>?_) (by rw [hs,hs2]) (by rw [hs2];rfl)))
  obtain ⟨a,b,xs,ys,e,qa,qb,q⟩:=q1
  subst e
  obtain ⟨u1,u2,e3,r3,r4⟩:=r1.two
  subst e3
  cases (show u1=Value.ref a from r3)
  cases (show u2=Value.ref b from r4)
  obtain ⟨its,rv,pl,_⟩:=I1.tuple qa
  obtain ⟨its2,rv2,pl2,_⟩:=I1.tuple qb
  have la:@LT.lt Nat _ a s1.heap.objs.size:=by obtain ⟨o,e,_⟩:=pl;exact Heap.lt_size e
  have lb:@LT.lt Nat _ b s1.heap.objs.size:=by obtain ⟨o,e,_⟩:=pl2;exact Heap.lt_size e
  refine V5 pl pl2 fun h' hz hTI hTO h1 h2 hk=>?_
  refine wpAny_pyIter_zip hz ?_
  have I2:Inv X pins σ H1 { s1 with heap:=h' }:=I1.kept (t':=s1.toks) hk
  refine ⟨s1.heap.objs.size + 4,[s1.heap.objs.size + 4,s1.heap.objs.size + 2,s1.heap.objs.size + 3,s1.heap.objs.size,s1.heap.objs.size + 1],_,_,H1,rfl,I2,
    Gf a b (s1.heap.objs.size + 4) xs ys (s1.heap.objs.size + 2) (s1.heap.objs.size + 3) s1.heap.objs.size (s1.heap.objs.size + 1) ?_,⟨hz,hTI,⟨_,_,hTO⟩,h1,h2⟩,fun c hc=>?_,q⟩
  · constructor <;> (refine nne ?_;omega)
  · have hle:@LE.le Nat _ s1.heap.objs.size c:=by
      simp only [List.mem_cons,List.mem_nil_iff,or_false] at hc
      rcases hc with rfl | rfl | rfl | rfl | rfl <;> omega
    exact I1.fpOk hle (I1.hok.fresh hle)
end
theorem Nc {K:PySem.W.Frag} {a b acc:Addr} {xs zs:List V} {tt:TT} {te:TE} {cs:St} {H1:Hp} {Q:Hp→Prop} (hlen:xs.length=zs.length) (Pv:Nat→List V→Hp→Prop) (h0:Pv 0 [] (upd H1 acc (.lst []))) (hl:∀ i ys H,i≤xs.length→Pv i ys H→SqT K H a xs∧SqT K H b zs)
    (hs:∀ i u v p ys H,i < xs.length→xs[i]?=some u→zs[i]?=some v→H p=none→Pv i ys H→tt (some u :: some v :: cs) (upd H p (.tup [u,v])) (Gb xs.length Pv acc i te (some u :: some v :: cs))) (hd:∀ ys H,Pv xs.length ys H→Q H):UE (Gj K a b xs zs) 2 cs (Mu K 2 (YI (Zo 0) (YI (Zo 1) Lc))) tt te H1 acc Q:=by
  refine Q9 (N:=xs.length) Pv h0 (fun ys H p=>?_) fun i ys H hi p=>?_
  · obtain ⟨qa,qb⟩:=hl _ _ _ (Nat.le_refl _) p
    exact ⟨⟨qa,Nat.le_refl _⟩,hd ys H p⟩
  · obtain ⟨qa,qb⟩:=hl _ _ _ (Nat.le_of_lt hi) p
    refine ⟨⟨qa,qb,hi,by omega⟩,?_⟩
    rintro x H3 ⟨q,u,v,hq,rfl,rfl,hu,hv⟩ as has
    obtain ⟨a0,a1,rfl⟩:=Xn has
    exact ⟨q,[u,v],rfl,SqT.of Qb,rfl,u,[v],rfl,v,[],rfl,rfl,⟨[some u,some v],rfl,rfl⟩,hs i u v q ys _ hi hu hv hq p⟩
end L2
namespace L2
open PySem PySem.Spec PyProof.Rows
def Pa (K:PySem.W.Frag):R2:=fun x y H Q=>∃ l b xs zs,x=.ref l∧y=.ref b∧SqL K H l xs∧SqL K H b zs∧xs.length + zs.length≤sizeLine∧∀ p,H p=none→Q (.ref p) (upd H p (.lst (xs ++ zs)))
theorem Nw {X:Cx}:OpR X (binaryOp .Add) (Pa X.K):=by
  intro pins s σ H x y v u Q I rx ry h
  obtain ⟨l,b,xs,zs,rfl,rfl,ha,hb,hz,q⟩:=h
  cases rx
  cases ry
  obtain ⟨its,r1,⟨⟨c1,d1,t1,s1⟩,n1,g1,e1,f1,k1⟩,_⟩:=I.list ha
  obtain ⟨its2,r2,⟨⟨c2,d2,t2,s2⟩,n2,g2,e2,f2,k2⟩,_⟩:=I.list hb
  simp only at e1 f1 k1 e2 f2 k2
  subst e1 f1 k1 e2 f2 k2
  have l1:=r1.length
  have l2:=r2.length
  refine concat_meets ⟨_,g1,rfl⟩ ⟨_,g2,rfl⟩ noFill_list_add seq_list_add PySem.F.slot_list_add PySem.F.entry_list_add (PySem.F.args_list_add_2 _ _) (list_addW l b _ _ n1 n2 none none s1 s2 (by rw [List.size_toArray,List.size_toArray];omega)) ⟨g1,g2,?_⟩
  have ea:its.toArray ++ its2.toArray=(its ++ its2).toArray:=by simp
  rw [ea]
  exact ⟨.ref _,_,I.lnew (t':=s.toks) (r1.append r2) (by rw [List.length_append];omega),rfl,q _ I.fresh⟩
theorem Mc (xs:List V) (k:Nat):cutV xs none (some (k:Int))=xs.take k:=by
  unfold cutV
  rw [HT.sIx_none,HT.sIx_nat,List.drop_zero,Nat.sub_zero]
  by_cases h:k≤xs.length
  · rw [Nat.min_eq_left h]
  · rw [Nat.min_eq_right (by omega),List.take_of_length_le (Nat.le_refl _),List.take_of_length_le (by omega)]
theorem J9 {n k:Nat} (h:k < n):ixN n (k:Int)=some k:=by
  unfold ixN
  rw [if_pos (by omega),if_pos (by omega)];simp
theorem QH:sizeLine=16777216:=by decide
theorem Zh {n:Nat} (h:n≤5000):n≤sizeLine:=by rw [QH];omega
end L2
namespace K9
open PySem L2 TM
mutual
def isT (f:Str→Str→Option (List Str)):Tree Str→Str→Bool
  | .node n _ bs,k=>match f k n with
    | none=>false
    | some ss=>decide (ss.length=bs.length) && Yp f bs ss
def Yp (f:Str→Str→Option (List Str)):List (Tree Str)→List Str→Bool
  | [],ss=>ss.isEmpty
  | b :: bs,ss=>match ss with
    | []=>false
    | s :: r=>isT f b s && Yp f bs r
end
theorem L0 (f:Str→Str→Option (List Str)) {t:Tree Str} {n:Str} {m:Int} {bs:List (Tree Str)} (e:t=.node n m bs) (k:Str):isT f t k=match f k n with
    | none=>false
    | some ss=>decide (ss.length=bs.length) && Yp f bs ss:=by subst e;simp only [isT]
theorem XO (f:Str→Str→Option (List Str)):∀ (bs:List (Tree Str)) (ss:List Str),ss.length=bs.length→Yp f bs ss=(List.zipWith (fun s b=>isT f b s) ss bs).all id
  | [],[],_=>by simp [Yp]
  | [],_ :: _,h=>by simp at h
  | _ :: _,[],h=>by simp at h
  | b :: bs,s :: ss,h=>by
    simp only [Yp,List.zipWith_cons_cons,List.all_cons,id]
    rw [XO f bs ss (by simpa using h)]
mutual
def td:Tree Str→PyData
  | .node n m bs=>.tuple [.str n,.int m,.tuple (tds bs)]
def tds:List (Tree Str)→List PyData
  | []=>[]
  | t :: r=>td t :: tds r
end
abbrev KdT:=Addr × Str × Addr × List PNx
def RowAt (K:PySem.W.Frag) (H:Hp) (t:PNx):Prop:=SqT K H t.1 [.str t.2.1,.ref t.2.2.1]∧SqT K H t.2.2.1 (t.2.2.2.map V.str)
def RowsL (K:PySem.W.Frag) (H:Hp) (lr:Addr) (rs:List PNx):Prop:=SqL K H lr (rs.map fun t=>V.ref t.1)∧∀ t ∈ rs,RowAt K H t
def WoodAt (K:PySem.W.Frag) (H:Hp) (w:Addr) (ks:List KdT):Prop:=SqL K H w (ks.map fun k=>V.ref k.1)∧∀ k ∈ ks,SqT K H k.1 [.str k.2.1,.ref k.2.2.1]∧RowsL K H k.2.2.1 k.2.2.2
theorem RowAt.same {K:PySem.W.Frag} {H H':Hp} {t:PNx} (g:Same H H') (h:RowAt K H t):RowAt K H' t:=⟨g.seqT h.1,g.seqT h.2⟩
theorem RowsL.same {K:PySem.W.Frag} {H H':Hp} {lr:Addr} {rs:List PNx} (g:Same H H') (h:RowsL K H lr rs):RowsL K H' lr rs:=⟨g.seq h.1,fun t ht=>(h.2 t ht).same g⟩
theorem WoodAt.same {K:PySem.W.Frag} {H H':Hp} {w:Addr} {ks:List KdT} (g:Same H H') (h:WoodAt K H w ks):WoodAt K H' w ks:=⟨g.seq h.1,fun k hk=>⟨g.seqT (h.2 k hk).1,(h.2 k hk).2.same g⟩⟩
structure RowsOk (rs:List PNx):Prop where
  nd:(rs.map fun t=>t.2.1).Nodup
  len:rs.length≤10
  nm:∀ r ∈ rs,PyData.strOk r.2.1=true
  kn:∀ r ∈ rs,∀ x ∈ r.2.2.2,PyData.strOk x=true
  kl:∀ r ∈ rs,r.2.2.2.length≤4
structure WoodOk (ks:List KdT):Prop where
  nd:(ks.map fun k=>k.2.1).Nodup
  len:ks.length≤10
  rows:∀ k ∈ ks,RowsOk k.2.2.2
def Qs (ks:List KdT) (kind:Str):List PNx:=((ks.find? fun k=>decide (k.2.1=kind)).map fun k=>k.2.2.2).getD []
def QW (ks:List KdT) (kind name:Str):Option (List Str):=((Qs ks kind).find? fun r=>decide (r.2.1=name)).map fun r=>r.2.2.2
theorem Ux {α:Type} (f:α→Str) (g:α→V) (z:Str):∀ l:List α,valV (l.map fun x=>((Sum.inr (f x):Key),g x)) (Sum.inr z)=(l.find? fun x=>decide (f x=z)).map g
  | []=>rfl
  | x :: r=>by
    rw [List.map_cons,List.find?_cons]
    by_cases e:f x=z
    · rw [QR (p:=((Sum.inr (f x):Key),g x)) (by rw [e]),decide_eq_true e];rfl
    · rw [QM (p:=((Sum.inr (f x):Key),g x)) (fun q=>e (by injection q)),decide_eq_false e]
      exact Ux f g z r
theorem Mw {ks:List KdT} (h:WoodOk ks) (kind:Str):RowsOk (Qs ks kind):=by
  unfold Qs
  cases e:ks.find? fun k=>decide (k.2.1=kind) with
  | none=>exact ⟨List.nodup_nil,Nat.zero_le _,fun r hr=>(nomatch hr),fun r hr=>(nomatch hr),fun r hr=>(nomatch hr)⟩
  | some k=>exact h.rows k (List.mem_of_find?_eq_some e)
def Rc (K:PySem.W.Frag) (H:Hp) (v:V):Option (List Str)→Prop
  | none=>v=.non
  | some ss=>∃ b,v=.ref b∧SqT K H b (ss.map V.str)
theorem NG {K:PySem.W.Frag} {H:Hp} {v:V} {t:Tree Str} (h:TrV K H v t):∃ a b vs name mark,v=.ref a∧t=.node name mark t.bs∧SqT K H a [.str name,.int mark,.ref b]∧SqT K H b vs∧TrAll K H vs t.bs∧vs.length≤1000:=by
  cases h with
  | mk h1 h2 h3 h4=>exact ⟨_,_,_,_,_,rfl,rfl,h1,h2,h3,h4⟩
end K9
namespace K11
open PySem L2 TM TT K9
def kpl:Lab→Bool
  | .call _ _=>false
  | .put _ k _=>k
mutual
def kp:Tm→Bool
  | .node l _ bs=>kpl l || kps bs
def kps:List Tm→Bool
  | []=>false
  | t :: r=>kp t || kps r
end
def YX (mk ks:List Str) (c:Int × Int):Bool:=decide (0≤c.1) && decide (c.1 < mk.length) && decide (0≤c.2) && decide (c.2 < ks.length) && decide (mk[c.1.toNat]?=ks[c.2.toNat]?)
def ZV (mk ks:List Str) (t:Tm):Bool:=(cls t).all (YX mk ks)
abbrev Md:=Str × List Tm
abbrev MdT:=Addr × Str × Addr × List V × List Tm
def MdT.md (m:MdT):Md:=(m.2.1,m.2.2.2.2)
def MdAt (K:PySem.W.Frag) (H:Hp) (m:MdT):Prop:=SqT K H m.1 [.str m.2.1,.ref m.2.2.1]∧SqL K H m.2.2.1 m.2.2.2.1∧TmAll K H m.2.2.2.1 m.2.2.2.2
def ModesL (K:PySem.W.Frag) (H:Hp) (lm:Addr) (ms:List MdT):Prop:=SqL K H lm (ms.map fun m=>V.ref m.1)∧∀ m ∈ ms,MdAt K H m
theorem MdAt.same {K:PySem.W.Frag} {H H':Hp} {m:MdT} (g:Same H H') (h:MdAt K H m):MdAt K H' m:=⟨g.seqT h.1,g.seq h.2.1,h.2.2.mono fun _ _=>g.seqT⟩
theorem ModesL.same {K:PySem.W.Frag} {H H':Hp} {lm:Addr} {ms:List MdT} (g:Same H H') (h:ModesL K H lm ms):ModesL K H' lm ms:=⟨g.seq h.1,fun m hm=>(h.2 m hm).same g⟩
abbrev mds (ms:List MdT):List Md:=ms.map MdT.md
abbrev mks (ms:List Md):List Str:=ms.map (·.1)
def Zx (ks:List KdT) (mk:List Str) (m:Md):Bool :=
  decide ((Qs ks m.1).length≠0) && decide (m.2.length=(Qs ks m.1).length) && (List.zipWith (fun (r:PNx) t=>ZV mk r.2.2.2 t) (Qs ks m.1) m.2).all id
def ruleK (ks:List KdT) (m:Md) (name:Str):Option Tm:=(((Qs ks m.1).zip m.2).find? fun x=>decide (x.1.2.1=name)).map (·.2)
def TmO (K:PySem.W.Frag) (H:Hp) (v:V):Option Tm→Prop
  | none=>v=.non
  | some t=>TmV K H v t
end K11
namespace K22
open PySem L2 TM TT K9 K11
def nmT:Tree Str→Str
  | .node n _ _=>n
def mkT:Tree Str→Int
  | .node _ m _=>m
def GP (ks:List KdT) (ms:List Md) (t:Tm) (r:Tree Str):Option (Tm × Tree Str) :=
  match lab t with
  | .put _ _ _=>none
  | .call m b=>match r.bs[b.toNat]? with
    | none=>none
    | some c=>match ms[m.toNat]? with
      | none=>none
      | some md=>match ruleK ks md (nmT c) with
        | none=>none
        | some u=>some (u,c)
def NO (ks:List KdT) (ms:List Md):Nat→Tm × Tree Str→Tm × Tree Str
  | 0,p=>p
  | n + 1,p=>match GP ks ms p.1 p.2 with
    | none=>p
    | some q=>NO ks ms n q
def Ru (ks:List KdT) (ms:List Md) (p:Tm × Tree Str):Tm × Tree Str:=NO ks ms 60 p
structure Tu where
  ks:List KdT
  k0:Str
  start:Tm
  ms:List Md
structure TuOk (T:Tu):Prop where
  rf:∀ m ∈ T.ms,Zx T.ks (mks T.ms) m=true
  st:ZV (mks T.ms) [T.k0] T.start=true
def St (T:Tu) (p:Tm × Tree Str):Prop:=∃ kinds,ZV (mks T.ms) kinds p.1=true∧kinds.length=p.2.bs.length∧Yp (QW T.ks) p.2.bs kinds=true
theorem Vg {f:Str→Str→Option (List Str)}:∀ {bs:List (Tree Str)} {ss:List Str} {i:Nat} {b:Tree Str} {s:Str},Yp f bs ss=true→bs[i]?=some b→ss[i]?=some s→isT f b s=true
  | [],_,_,_,_,_,h,_=>by simp at h
  | _ :: _,[],_,_,_,_,_,h=>by simp at h
  | b :: bs,s :: ss,0,b',s',h,h1,h2=>by
    simp only [Yp,Bool.and_eq_true] at h
    simp at h1 h2
    rw [← h1,← h2];exact h.1
  | b :: bs,s :: ss,i + 1,b',s',h,h1,h2=>by
    simp only [Yp,Bool.and_eq_true] at h
    exact Vg (i:=i) h.2 (by simpa using h1) (by simpa using h2)
theorem XR {f:Str→Str→Option (List Str)} {t:Tree Str} {k:Str} (h:isT f t k=true):∃ ss,f k (nmT t)=some ss∧ss.length=t.bs.length∧Yp f t.bs ss=true:=by
  cases t with
  | node n m bs =>
    simp only [isT] at h
    cases e:f k n with
    | none=>rw [e] at h;cases h
    | some ss =>
      rw [e] at h
      simp only [Bool.and_eq_true,decide_eq_true_eq] at h
      exact ⟨ss,e,h.1,h.2⟩
theorem Wb {α β:Type} (p:α→Bool) (f:α→β→Bool):∀ {as:List α} {bs:List β} {a:α},as.length=bs.length→(List.zipWith f as bs).all id=true→as.find? p=some a→∃ b,(as.zip bs).find? (fun x=>p x.1)=some (a,b)∧f a b=true∧b ∈ bs
  | [],_,_,_,_,h=>by simp at h
  | x :: as,[],_,hl,_,_=>by simp at hl
  | x :: as,y :: bs,a,hl,ha,h=>by
    simp only [List.zipWith_cons_cons,List.all_cons,id,Bool.and_eq_true] at ha
    rw [List.find?_cons] at h
    rw [List.zip_cons_cons,List.find?_cons]
    cases hp:p x with
    | true =>
      rw [hp] at h
      obtain rfl:=Option.some.inj h
      exact ⟨y,by simp [hp],ha.1,List.mem_cons_self⟩
    | false =>
      rw [hp] at h
      obtain ⟨b,h1,h2,h3⟩:=Wb p f (by simpa using hl) ha.2 h
      exact ⟨b,by simpa [hp] using h1,h2,List.mem_cons_of_mem _ h3⟩
theorem L4 {t:Tm} {m b:Int} (h:lab t=.call m b):(m,b) ∈ cls t:=by
  cases t with
  | node l k bs =>
    have:l=.call m b:=h
    subst this
    simp [cls,lcl]
theorem Y7 {mk ks:List Str} {m b:Int} (h:YX mk ks (m,b)=true):0≤m∧m < mk.length∧0≤b∧b < ks.length∧mk[m.toNat]?=ks[b.toNat]?:=by
  unfold YX at h
  simp only [Bool.and_eq_true,decide_eq_true_eq] at h
  obtain ⟨⟨⟨⟨h1,h2⟩,h3⟩,h4⟩,h5⟩:=h
  exact ⟨h1,h2,h3,h4,h5⟩
theorem GA {mk ks:List Str} {t:Tm} {m b:Int} (h:ZV mk ks t=true) (hl:lab t=.call m b):YX mk ks (m,b)=true:=by
  unfold ZV at h
  exact List.all_eq_true.mp h _ (L4 hl)
theorem JW {T:Tu} (ok:TuOk T) {md:Md} (hm:md ∈ T.ms) {name:Str} {ss:List Str} (hr:QW T.ks md.1 name=some ss):∃ u,ruleK T.ks md name=some u∧ZV (mks T.ms) ss u=true∧u ∈ md.2:=by
  have h:=ok.rf md hm
  unfold Zx at h
  simp only [Bool.and_eq_true,decide_eq_true_eq] at h
  obtain ⟨⟨_,h2⟩,h3⟩:=h
  unfold QW at hr
  cases er:(Qs T.ks md.1).find? fun r=>decide (r.2.1=name) with
  | none=>rw [er] at hr;cases hr
  | some r =>
    rw [er] at hr
    have e:r.2.2.2=ss:=by simpa using hr
    obtain ⟨u,h4,h5,h6⟩:=Wb (fun r:PNx=>decide (r.2.1=name)) (fun (r:PNx) t=>ZV (mks T.ms) r.2.2.2 t) h2.symm h3 er
    refine ⟨u,?_,by rw [← e];exact h5,h6⟩
    unfold ruleK
    rw [h4];rfl
theorem St.next {T:Tu} (ok:TuOk T) {p:Tm × Tree Str} (h:St T p) {m b:Int} (hl:lab p.1=.call m b) :
    ∃ c md u,0≤b∧0≤m∧p.2.bs[b.toNat]?=some c∧T.ms[m.toNat]?=some md∧ruleK T.ks md (nmT c)=some u∧u ∈ md.2∧GP T.ks T.ms p.1 p.2=some (u,c)∧St T (u,c):=by
  obtain ⟨kinds,hf,hkl,hT⟩:=h
  obtain ⟨m0,m1,b0,b1,e⟩:=Y7 (GA hf hl)
  have hbl:b.toNat < p.2.bs.length:=by omega
  have hml:m.toNat < T.ms.length:=by rw [List.length_map] at m1;omega
  have hkb:b.toNat < kinds.length:=by omega
  have hc:p.2.bs[b.toNat]?=some p.2.bs[b.toNat]:=List.getElem?_eq_getElem hbl
  have hm:T.ms[m.toNat]?=some T.ms[m.toNat]:=List.getElem?_eq_getElem hml
  have hk:kinds[b.toNat]?=some T.ms[m.toNat].1:=by rw [← e,List.getElem?_map,hm];rfl
  obtain ⟨ss,h1,h2,h3⟩:=XR (Vg hT hc hk)
  obtain ⟨u,h4,h5,h6⟩:=JW ok (List.getElem_mem hml) h1
  refine ⟨_,_,u,b0,m0,hc,hm,h4,h6,?_,ss,h5,h2,h3⟩
  unfold GP
  rw [hl]
  simp only [hc,hm,h4]
def upT (t:Tree Str):Tree Str:=.node (S []) 0 [t]
theorem St.start {T:Tu} (ok:TuOk T) {t:Tree Str} (h:isT (QW T.ks) t T.k0=true):St T (T.start,upT t) :=
  ⟨[T.k0],ok.st,rfl,by simp [upT,Tree.bs,Yp,h]⟩
theorem St.mode {T:Tu} {t:Tree Str} {m:Int} {md:Md} (h0:0≤m) (hm:T.ms[m.toNat]?=some md) (h:isT (QW T.ks) t md.1=true):St T (Ze m 0,upT t):=by
  refine ⟨[md.1],?_,rfl,by simp [upT,Tree.bs,Yp,h]⟩
  have hl:m.toNat < T.ms.length:=(List.getElem?_eq_some_iff.mp hm).1
  unfold ZV
  simp only [Ze,cls,lcl,Zj,List.append_nil,List.all_cons,List.all_nil,Bool.and_true]
  unfold YX
  simp only [List.length_map,List.getElem?_map,hm,Bool.and_eq_true,decide_eq_true_eq,Option.map_some,List.length_singleton]
  exact ⟨⟨⟨⟨h0,by omega⟩,by omega⟩,by omega⟩,rfl⟩
end K22
namespace L2
open PySem PySem.Spec PyProof.Rows PySem.W
section
variable {prog:Program} {w:World} {A:Around} {E:Value→Shared→Prop} {s:Shared}
end
section
variable {X:Cx}
end
end L2
namespace L2
open PySem PySem.Spec PyProof.Rows
section
variable {prog:Program} {w:World} {A:Around} {E:Value→Shared→Prop} {s:Shared}
theorem VU {zp ti tu j1 j2 t1 t2:Addr} {n1 n2:Nat} {us vs:Array Value} {p q c d:Value} {Q:Value→Shared→Prop} (Ap:ZipApart zp ti tu j1 j2 t1 t2)
    (gz:IsZip s.heap zp ti tu .none) (gi:IsPair s.heap ti (.ref j1) (.ref j2)) (gu:IsPair s.heap tu c d)
    (w1:s.heap.IsTupleIter j1 t1 n1) (w2:s.heap.IsListIter j2 t2 n2) (l1:s.heap.IsTuple t1 us) (l2:s.heap.IsList t2 vs) (ep:us[n1]?=some p) (eq:vs[n2]?=some q)
    (k:∀ h',IsZip h' zp ti tu (rawInt s.heap.objs.size)→IsPair h' tu p q→h'.IsTupleIter j1 t1 (n1 + 1)→h'.IsListIter j2 t2 (n2 + 1)→IsPair h' s.heap.objs.size p q →
      (∀ b o,b≠zp→b≠tu→b≠j1→b≠j2→s.heap.get? b=some o→h'.get? b=some o)→Q (.ref s.heap.objs.size) { s with heap:=h' }) :
    wpAny (model prog w) A (Builtin.«zip.__next__» ⟨[.ref zp],[]⟩) (fun fin s'=>∃ v,fin=.done (.ret v)∧Q v s') E s:=by
  show wpAny _ _ (field (.ref zp) 2 >>= _) _ _ _
  refine wpAny_bind (wpAny_field gz rfl (x:=.bool false) rfl ?_)
  show wpAny _ _ (field (.ref zp) 3 >>= _) _ _ _
  refine wpAny_bind (wpAny_field gz rfl (x:=.ref ti) rfl ?_)
  refine wpAny_bind (wpAny_seqItems gi rfl ?_)
  show wpAny _ _ (Builtin.SmallTypes.ownedTupleIsFree (.ref zp) >>= _) _ _ _
  refine wpAny_bind ?_;(unfold Builtin.SmallTypes.ownedTupleIsFree);refine wpAny_bind (wpAny_field gz rfl (x:=.none) rfl (wpAny_pure ?_))
  simp only [if_true]
  refine wpAny_bind (wpAny_rule (wpAny_bind (wpAny_field gz rfl (x:=.ref tu) rfl ?_)))
  refine wpAny_bind (wpAny_setField_rec gz (by simp) fun ha gza sa=>?_)
  replace gza:IsZip ha zp ti tu .ellipsis:=gza
  refine wpAny_bind ?_
  simp only [List.forIn_cons,List.forIn_nil,List.zipIdx_cons,List.zipIdx_nil]
  refine wpAny_bind (wpAny_bind (wpAny_onRaise ?_))
  show wpAny _ _ (Builtin.SmallTypes.nextOf (.ref j1) >>= _) _ _ _
  refine wpAny_bind (ZU (w1.extBut sa.extBut Ap.i1z) (l1.extBut sa.extBut Ap.l1z) ep fun hb w1b sb=>wpAny_pure ?_)
  have gub:IsPair hb tu c d:=sb.extBut _ _ Ap.TOi1 (sa.extBut _ _ Ap.TOz gu)
  refine wpAny_bind (wpAny_seqItems gub rfl (wpAny_bind (wpAny_updateSeq_pair gub fun hc guc sc=>?_)))
  replace guc:IsPair hc tu p d:=guc
  refine wpAny_bind (wpAny_letGo (wpAny_pure (wpAny_bind (wpAny_bind (wpAny_onRaise ?_)))))
  show wpAny _ _ (Builtin.SmallTypes.nextOf (.ref j2) >>= _) _ _ _
  refine wpAny_bind (wpAny_nextOf_list_item (((w2.extBut sa.extBut Ap.i2z).extBut sb.extBut Ap.i12.symm).extBut sc.extBut Ap.TOi2.symm) (((l2.extBut sa.extBut Ap.l2z).extBut sb.extBut Ap.l2i1).extBut sc.extBut Ap.l2TO) eq fun hd w2d sd=>wpAny_pure ?_)
  have gud:IsPair hd tu p d:=sd.extBut _ _ Ap.TOi2 guc
  refine wpAny_bind (wpAny_seqItems gud rfl (wpAny_bind (wpAny_updateSeq_pair gud fun he gue se=>?_)))
  replace gue:IsPair he tu p q:=gue
  refine wpAny_bind (wpAny_letGo (wpAny_pure (wpAny_pure (wpAny_bind (wpAny_seqItems gue rfl (wpAny_bind (wpAny_newTuple ?_)))))))
  have size5:he.objs.size=s.heap.objs.size:=by rw [se.1,sd.1,sc.1,sb.1,sa.1]
  have gze:IsZip he zp ti tu .ellipsis:=se.extBut _ _ Ap.TOz.symm (sd.extBut _ _ Ap.i2z.symm (sc.extBut _ _ Ap.TOz.symm (sb.extBut _ _ Ap.i1z.symm gza)))
  have kept5:∀ b o,b≠zp→b≠tu→b≠j1→b≠j2→s.heap.get? b=some o→he.get? b=some o:=fun b o b1 b2 b3 b4 e=>se.extBut _ _ b2 (sd.extBut _ _ b4 (sc.extBut _ _ b2 (sb.extBut _ _ b3 (sa.extBut _ _ b1 e))))
  have w1e:he.IsTupleIter j1 t1 (n1 + 1):=((w1b.extBut sc.extBut Ap.TOi1.symm).extBut sd.extBut Ap.i12).extBut se.extBut Ap.TOi1.symm
  have w2e:he.IsListIter j2 t2 (n2 + 1):=w2d.extBut se.extBut Ap.TOi2.symm
  have lz:zp < he.objs.size:=Heap.lt_size gze
  show wpAny _ _ (Builtin.SmallTypes.ownedTupleHandOut (.ref zp) (.ref he.objs.size) >>= _) _ _ _
  refine wpAny_bind ?_;(unfold Builtin.SmallTypes.ownedTupleHandOut)
  have gzf:IsZip (he.push { cls:=.type "tuple", data:=.seq #[p,q] }) zp ti tu .ellipsis:=Heap.get?_push_of_some _ gze
  refine wpAny_bind (wpAny_setField_rec gzf (by simp) fun hg gzg sg=>?_)
  replace gzg:IsZip hg zp ti tu (rawInt he.objs.size):=gzg
  refine wpAny_setField_rec gzg (by simp) fun hh gzh sh=>?_
  replace gzh:IsZip hh zp ti tu (rawInt he.objs.size):=gzh
  have upw:∀ b o,b≠zp→he.get? b=some o→hh.get? b=some o:=fun b o b1 e=>sh.extBut _ _ b1 (sg.extBut _ _ b1 (Heap.get?_push_of_some _ e))
  have gnew:IsPair hh he.objs.size p q:=sh.extBut _ _ (Nat.ne_of_gt lz) (sg.extBut _ _ (Nat.ne_of_gt lz) (Heap.get?_push_size _ rfl))
  rw [size5] at gzh gnew
  refine wpAny_pure ⟨_,rfl,?_⟩
  show Q (.ref he.objs.size) _
  rw [size5]
  exact k hh gzh (upw _ _ Ap.TOz gue) (w1e.at fun o e=>upw _ o Ap.i1z e) (w2e.at fun o e=>upw _ o Ap.i2z e) gnew fun b o b1 b2 b3 b4 e=>upw b o b1 (kept5 b o b1 b2 b3 b4 e)
theorem Le {zp ti tu j1 j2 t1 t2:Addr} {n1 n2:Nat} {us vs:Array Value} {c d:Value} {Q:Fin→Shared→Prop} (hh:A.handled=none) (Ap:ZipApart zp ti tu j1 j2 t1 t2)
    (gz:IsZip s.heap zp ti tu .none) (gi:IsPair s.heap ti (.ref j1) (.ref j2)) (gu:IsPair s.heap tu c d)
    (w1:s.heap.IsTupleIter j1 t1 n1) (l1:s.heap.IsTuple t1 us) (ep:us[n1]?=none)
    (k:∀ h' e,(∀ b o,b≠zp→b≠tu→b≠j1→b≠j2→s.heap.get? b=some o→h'.get? b=some o)→(∃ o,h'.get? e=some o∧o.cls=.type "StopIteration")→E (.ref e) { s with heap:=h' }) :
    wpAny (model prog w) A (Builtin.«zip.__next__» ⟨[.ref zp],[]⟩) Q E s:=by
  show wpAny _ _ (field (.ref zp) 2 >>= _) _ _ _
  refine wpAny_bind (wpAny_field gz rfl (x:=.bool false) rfl ?_)
  show wpAny _ _ (field (.ref zp) 3 >>= _) _ _ _
  refine wpAny_bind (wpAny_field gz rfl (x:=.ref ti) rfl ?_)
  refine wpAny_bind (wpAny_seqItems gi rfl ?_)
  show wpAny _ _ (Builtin.SmallTypes.ownedTupleIsFree (.ref zp) >>= _) _ _ _
  refine wpAny_bind ?_;(unfold Builtin.SmallTypes.ownedTupleIsFree);refine wpAny_bind (wpAny_field gz rfl (x:=.none) rfl (wpAny_pure ?_))
  simp only [if_true]
  refine wpAny_bind (wpAny_rule (wpAny_bind (wpAny_field gz rfl (x:=.ref tu) rfl ?_)))
  refine wpAny_bind (wpAny_setField_rec gz (by simp) fun ha gza sa=>?_)
  replace gza:IsZip ha zp ti tu .ellipsis:=gza
  refine wpAny_bind ?_
  simp only [List.forIn_cons,List.forIn_nil,List.zipIdx_cons,List.zipIdx_nil]
  refine wpAny_bind (wpAny_bind (wpAny_onRaise ?_))
  show wpAny _ _ (Builtin.SmallTypes.nextOf (.ref j1) >>= _) _ _ _
  refine wpAny_bind (Uc hh (w1.extBut sa.extBut Ap.i1z) (l1.extBut sa.extBut Ap.l1z) ep fun hb e sb ge=>?_)
  obtain ⟨oe,hoe,hce⟩:=ge
  have gzb:IsZip hb zp ti tu .ellipsis:=sb _ _ Ap.i1z.symm gza
  have nez:e≠zp:=fun x=>by subst x;rw [gzb] at hoe;cases hoe;simp at hce
  refine wpAny_setField_rec gzb (by simp) fun hc _ sc=>k hc e (fun b o b1 _ b3 _ x=>sc.extBut _ _ b1 (sb _ _ b3 (sa.extBut _ _ b1 x))) ⟨oe,sc.extBut _ _ nez hoe,hce⟩
theorem YY {zp ti tu j1 j2 t1 t2:Addr} {n1 n2:Nat} {us vs:Array Value} {p q c d:Value} {Q:Option Value→Shared→Prop} (Ap:ZipApart zp ti tu j1 j2 t1 t2)
    (gz:IsZip s.heap zp ti tu .none) (gi:IsPair s.heap ti (.ref j1) (.ref j2)) (gu:IsPair s.heap tu c d)
    (w1:s.heap.IsTupleIter j1 t1 n1) (w2:s.heap.IsListIter j2 t2 n2) (l1:s.heap.IsTuple t1 us) (l2:s.heap.IsList t2 vs) (ep:us[n1]?=some p) (eq:vs[n2]?=some q)
    (k:∀ h',IsZip h' zp ti tu (rawInt s.heap.objs.size)→IsPair h' tu p q→h'.IsTupleIter j1 t1 (n1 + 1)→h'.IsListIter j2 t2 (n2 + 1)→IsPair h' s.heap.objs.size p q →
      (∀ b o,b≠zp→b≠tu→b≠j1→b≠j2→s.heap.get? b=some o→h'.get? b=some o)→Q (some (.ref s.heap.objs.size)) { s with heap:=h' }) :
    wpAny (model prog w) A (pyNext (.ref zp)) Q E s:=by
  have tz:s.TypeIs (.ref zp) "zip" := ⟨_,gz,rfl⟩
  unfold pyNext
  exact wpAny_bind (wpAny_attempt (wpAny_callSpecial?_slot (name:=Str.ofString "__next__") tz F.slot_zip_next (wpAny_call_entry F.slot_zip_next tz F.entry_zip_next (VU Ap gz gi gu w1 w2 l1 l2 ep eq fun h' a1 a2 a3 a4 a5 a6=>wpAny_pure (k h' a1 a2 a3 a4 a5 a6)) (F.args_zip_next_1 _))))
theorem Uh {zp ti tu j1 j2 t1 t2:Addr} {n1 n2:Nat} {us:Array Value} {c d:Value} {Q:Option Value→Shared→Prop} (hh:A.handled=none) (Ap:ZipApart zp ti tu j1 j2 t1 t2)
    (gz:IsZip s.heap zp ti tu .none) (gi:IsPair s.heap ti (.ref j1) (.ref j2)) (gu:IsPair s.heap tu c d) (w1:s.heap.IsTupleIter j1 t1 n1) (l1:s.heap.IsTuple t1 us) (ep:us[n1]?=none)
    (k:∀ h',(∀ b o,b≠zp→b≠tu→b≠j1→b≠j2→s.heap.get? b=some o→h'.get? b=some o)→Q none { s with heap:=h' }):wpAny (model prog w) A (pyNext (.ref zp)) Q E s:=by
  have tz:s.TypeIs (.ref zp) "zip" := ⟨_,gz,rfl⟩
  unfold pyNext
  refine wpAny_bind (wpAny_attempt (wpAny_callSpecial?_slot (name:=Str.ofString "__next__") tz F.slot_zip_next (wpAny_call_entry F.slot_zip_next tz F.entry_zip_next (Le hh (n2:=n2) (vs:=us) Ap gz gi gu w1 l1 ep fun h' e hk ge=>?_) (F.args_zip_next_1 _))))
  obtain ⟨o,ho,hc⟩:=ge
  exact wpAny_bind (wpAny_isInstance (T:="StopIteration") (b:=true) ⟨o,ho,hc⟩ isSubtype_stop (wpAny_pure (k _ hk)))
abbrev zM1 (h:Heap) (t1:Addr):Heap:=h.push { cls:=.type "tuple_iterator", data:=.fields #[.ref t1,.int 0 0] }
abbrev zM2 (h:Heap) (t1 t2:Addr):Heap:=(zM1 h t1).push { cls:=.type "list_iterator", data:=.fields #[.ref t2,.int 0 0] }
abbrev zM3 (h:Heap) (t1 t2:Addr):Heap:=(zM2 h t1 t2).push { cls:=.type "tuple", data:=.seq #[.ref h.objs.size,.ref (zM1 h t1).objs.size] }
abbrev zM4 (h:Heap) (t1 t2:Addr):Heap:=(zM3 h t1 t2).push { cls:=.type "tuple", data:=.seq #[.none,.none] }
abbrev zM5 (h:Heap) (t1 t2:Addr):Heap:=(zM4 h t1 t2).push { cls:=.type "zip", data:=.fields #[.none,.bool false,.bool false,.ref (zM2 h t1 t2).objs.size,.ref (zM3 h t1 t2).objs.size] }
theorem GM (t1 t2:Addr) (us vs:Array Value) :
    Meets (Builtin.«zip.__new__» ⟨[.type "zip", .ref t1,.ref t2],[]⟩) (fun _ R s=>s.heap.IsTuple t1 us∧s.heap.IsList t2 vs ∧
      R (.ok (.ret (.ref (zM4 s.heap t1 t2).objs.size))) { s with heap:=zM5 s.heap t1 t2 }) :=
  .of_wp fun prog w A R s h=>by
    obtain ⟨hp,g,d,tk,os⟩:=s;obtain ⟨l1,l2,h⟩:=h
    have hsub:=sub_zip
    have L1:Heap.IsTuple (Shared.heap ⟨hp,g,d,tk,os⟩) t1 us:=l1
    have L2:Heap.IsList (Shared.heap ⟨hp.push { cls:=.type "tuple_iterator", data:=.fields #[.ref t1,.int 0 0] },g,d,tk,os⟩) t2 vs:=let ⟨o,e,r⟩:=l2;⟨o,Heap.get?_push_of_some _ e,r⟩
    wp_walk using wpAny_pyIter_tuple L1,wpAny_pyIter_list L2
    exact ⟨_,rfl,h⟩
theorem VM {t1 t2:Addr} {us vs:Array Value} {Q:Value→Shared→Prop} (l1:s.heap.IsTuple t1 us) (l2:s.heap.IsList t2 vs)
    (h:∀ h',IsZip h' (s.heap.objs.size + 4) (s.heap.objs.size + 2) (s.heap.objs.size + 3) .none→IsPair h' (s.heap.objs.size + 2) (.ref s.heap.objs.size) (.ref (s.heap.objs.size + 1)) →
      IsPair h' (s.heap.objs.size + 3) .none .none→h'.IsTupleIter s.heap.objs.size t1 0→h'.IsListIter (s.heap.objs.size + 1) t2 0 →
      (∀ c o,s.heap.get? c=some o→h'.get? c=some o)→Q (.ref (s.heap.objs.size + 4)) { s with heap:=h' }) :
    wpAny (model prog w) A (call (.type "zip") [.ref t1,.ref t2]) Q E s:=by
  refine callType_new F.called_zip (by decide) (F.typeCall_zip_2 _ _) (F.newCall_zip_2 _ _) (fun obj=>F.args_object_init_3 obj _ _) F.entry_zip_new (GM t1 t2 us vs) ⟨l1,l2,?_⟩
  have q1:(zM1 s.heap t1).objs.size=s.heap.objs.size + 1:=Heap.size_push ..
  have q2:(zM2 s.heap t1 t2).objs.size=s.heap.objs.size + 2:=by rw [Heap.size_push,q1]
  have q3:(zM3 s.heap t1 t2).objs.size=s.heap.objs.size + 3:=by rw [Heap.size_push,q2]
  have q4:(zM4 s.heap t1 t2).objs.size=s.heap.objs.size + 4:=by rw [Heap.size_push,q3]
  have r5:(zM5 s.heap t1 t2).get? (zM4 s.heap t1 t2).objs.size=some _:=Heap.get?_push_size _ rfl
  have r4:(zM5 s.heap t1 t2).get? (zM3 s.heap t1 t2).objs.size=some _:=Heap.get?_push_of_some _ (Heap.get?_push_size _ rfl)
  have r3:(zM5 s.heap t1 t2).get? (zM2 s.heap t1 t2).objs.size=some _:=Heap.get?_push_of_some _ (Heap.get?_push_of_some _ (Heap.get?_push_size _ rfl))
  have r2:(zM5 s.heap t1 t2).get? (zM1 s.heap t1).objs.size=some _:=Heap.get?_push_of_some _ (Heap.get?_push_of_some _ (Heap.get?_push_of_some _ (Heap.get?_push_size _ rfl)))
  have r1:(zM5 s.heap t1 t2).get? s.heap.objs.size=some _:=Heap.get?_push_of_some _ (Heap.get?_push_of_some _ (Heap.get?_push_of_some _ (Heap.get?_push_of_some _ (Heap.get?_push_size _ rfl))))
  show _∧_
  rw [q2,q3,q4] at r5
  rw [q1,q2] at r3
  rw [q3] at r4
  rw [q1] at r2
  rw [q4]
  exact ⟨⟨_,r5,rfl⟩,h _ r5 r3 r4 ⟨_,r1,rfl,rfl⟩ ⟨_,r2,rfl,rfl⟩ fun b o x=>Heap.get?_push_of_some _ (Heap.get?_push_of_some _ (Heap.get?_push_of_some _ (Heap.get?_push_of_some _ (Heap.get?_push_of_some _ x))))⟩
end
def Mb (K:PySem.W.Frag) (a b:Addr) (xs ys:List V):It :=
  ⟨fun i H=>SqT K H a xs∧SqL K H b ys∧i < xs.length∧i < ys.length,
   fun i H x H'=>∃ p u v,H p=none∧x=.ref p∧H'=upd H p (.tup [u,v])∧xs[i]?=some u∧ys[i]?=some v,
   fun i H=>SqT K H a xs∧xs.length≤i⟩
theorem VY {P:Program} {w:World} {K:PySem.W.Frag} {elts:List Expr} {k1:Nat} {pos:Pos} (a b z:Addr) (xs ys:List V) (TI TO i1 i2:Addr) (Ap:ZipApart z TI TO i1 i2 a b) :
    Turn P w K (.Tuple elts k1 pos) (Mb K a b xs ys) [z,TI,TO,i1,i2] z (fun i h=>IsZip h z TI TO .none∧IsPair h TI (.ref i1) (.ref i2)∧(∃ u v,IsPair h TO u v)∧h.IsTupleIter i1 a i∧h.IsListIter i2 b i) where
  mem:=by simp
  obj:=fun i h st c hc=>by
    obtain ⟨hz,hTI,⟨u,v,hTO⟩,h1,h2⟩:=st
    simp only [List.mem_cons,List.mem_nil_iff,or_false] at hc
    rcases hc with rfl | rfl | rfl | rfl | rfl
    · exact ⟨_,hz,fun v z=>by have z':Data.fields _=Data.cell v:=z;cases z'⟩
    · exact ⟨_,hTI,fun v z=>by have z':Data.seq _ _=Data.cell v:=z;cases z'⟩
    · exact ⟨_,hTO,fun v z=>by have z':Data.seq _ _=Data.cell v:=z;cases z'⟩
    · obtain ⟨o,e,c,d⟩:=h1;exact ⟨o,e,fun v z=>by rw [d] at z;cases z⟩
    · obtain ⟨o,e,c,d⟩:=h2;exact ⟨o,e,fun v z=>by rw [d] at z;cases z⟩
  keep:=fun i h h' st k=>by
    obtain ⟨hz,hTI,⟨u,v,hTO⟩,h1,h2⟩:=st
    exact ⟨k z (by simp) _ hz,k TI (by simp) _ hTI,⟨u,v,k TO (by simp) _ hTO⟩,h1.at fun o e=>k i1 (by simp) o e,h2.at fun o e=>k i2 (by simp) o e⟩
  item:=by
    intro X hP hw hK hc i pins s σ H E I hf st hg
    subst hP hw hK
    obtain ⟨hz,hTI,⟨u0,v0,hTO⟩,h1,h2⟩:=st
    obtain ⟨qa,qb,lx,ly⟩:=hg
    obtain ⟨its,rv,p,_⟩:=I.tuple qa
    obtain ⟨its2,rv2,p2,_⟩:=I.list qb
    have ex:xs[i]?=some xs[i]:=List.getElem?_eq_getElem lx
    have ey:ys[i]?=some ys[i]:=List.getElem?_eq_getElem ly
    obtain ⟨u,hu,ru⟩:=rv.get ex
    obtain ⟨v,hv,rv'⟩:=rv2.get ey
    refine YY Ap hz hTI hTO h1 h2 p p2.isList (p:=u) (q:=v) (by simpa using hu) (by simpa using hv) fun h' a1 a2 a3 a4 a5 hk=>?_
    refine ⟨.ref s.heap.objs.size,rfl,wpAny_letOwnedTupleGo_zip (s:={ s with heap:=h' }) a1 fun h'' hz' hs'=>?_⟩
    have lt:∀ {c o},s.heap.get? c=some o→c≠s.heap.objs.size:=fun e=>Nat.ne_of_lt (Heap.lt_size e)
    have e5:IsPair h'' s.heap.objs.size u v:=(hs'.2 _ (Ne.symm (lt hz))).trans a5
    have hch:∀ c ∈ [z,TO,i1,i2],Yx X pins H c:=fun c hc=>hf c (by
      simp only [List.mem_cons,List.mem_nil_iff,or_false] at hc ⊢
      rcases hc with rfl | rfl | rfl | rfl <;> simp)
    have I2:Inv X pins σ (upd H s.heap.objs.size (.tup [xs[i],ys[i]])) { s with heap:=h'',toks:=s.toks }:=by
      refine I.turnedNew (ch:=[z,TO,i1,i2]) (fun c o hc e=>?_) hch (Nat.le_refl _) ⟨by show 2≤sizeLine;decide,[u,v],.cons ru (.cons rv' .nil),⟨_,e5,rfl,_,rfl⟩⟩
      simp only [List.mem_cons,List.mem_nil_iff,or_false,not_or] at hc
      exact (hs'.2 c hc.1).trans (hk c o hc.1 hc.2.1 hc.2.2.1 hc.2.2.2 e)
    have hfr:∀ c ∈ [z,TI,TO,i1,i2],upd H s.heap.objs.size (.tup [xs[i],ys[i]]) c=none:=fun c hc=>by
      have hc2:=hf c hc
      have:c≠s.heap.objs.size:=by
        simp only [List.mem_cons,List.mem_nil_iff,or_false] at hc
        rcases hc with rfl | rfl | rfl | rfl | rfl
        · exact lt hz
        · exact lt hTI
        · exact lt hTO
        · obtain ⟨o,e,_⟩:=h1;exact lt e
        · obtain ⟨o,e,_⟩:=h2;exact lt e
      rw [Qg this];exact hc2.1
    exact ⟨.ref s.heap.objs.size,_,I2,rfl,⟨s.heap.objs.size,_,_,I.fresh,rfl,rfl,ex,ey⟩,⟨hz',hs'.extBut _ _ Ap.TIz (hk _ _ Ap.TIz Ap.TITO Ap.TIi1 Ap.TIi2 hTI),⟨_,_,hs'.extBut _ _ Ap.TOz a2⟩,a3.extBut hs'.extBut Ap.i1z,a4.extBut hs'.extBut Ap.i2z⟩,hfr⟩
  done:=by
    intro X hP hw hK hc i pins s σ H E I hf st hg
    subst hP hw hK
    obtain ⟨hz,hTI,⟨u0,v0,hTO⟩,h1,h2⟩:=st
    obtain ⟨qa,hl⟩:=hg
    obtain ⟨its,rv,p,_⟩:=I.tuple qa
    have l1:=rv.length
    have hch:∀ c ∈ [z,TO,i1,i2],Yx X pins H c:=fun c hc=>hf c (by
      simp only [List.mem_cons,List.mem_nil_iff,or_false] at hc ⊢
      rcases hc with rfl | rfl | rfl | rfl <;> simp)
    refine Uh (n2:=0) (I.ok.hd hc) Ap hz hTI hTO h1 p (by simp;omega) fun h' hk=>⟨rfl,I.turnedL (t':=s.toks) (ch:=[z,TO,i1,i2]) (fun c o hc e=>?_) hch⟩
    simp only [List.mem_cons,List.mem_nil_iff,or_false,not_or] at hc
    exact hk c o hc.1 hc.2.1 hc.2.2.1 hc.2.2.2 e
  self:=fun _ _ _ _ _ st h=>wpAny_pyIter_zip st.1 h
section
variable {X:Cx} {elts:List Expr} {k1:Nat} {tpos:Pos}
def PR (K:PySem.W.Frag) (ta:TA):TI:=fun σ H R=>ta σ H fun vs H1=>∃ a b xs ys,vs=[.ref a,.ref b]∧SqT K H1 a xs∧SqL K H1 b ys∧R (Mb K a b xs ys) H1
theorem MN {e1 e2:Expr} {ta:TA} {p pos:Pos} (hg:Gl X "zip") (hm:X.mg "zip" = none) (ha:PA X [e1,e2] ta) (hs:starEach [e1,e2] X.env=[(false,eval e1 X.env),(false,eval e2 X.env)]:=by rfl) (hs2:starEach [e2] X.env=[(false,eval e2 X.env)]:=by rfl) :
    PI X (.Tuple elts k1 tpos) (.Call (.Name "zip" p) [e1,e2] [] pos) (PR X.K ta):=by
  intro pins s σ H R I h
  refine Call_ (ZS I hg hm PyProof.Rows.boot_zip (PyProof.Rows.callWith_type1 (thn (ha pos pins s σ H _ I h) fun us s1 ⟨vs,H1,I1,r1,q1⟩=>?_) (by rw [hs,hs2]) (by rw [hs2];rfl)))
  obtain ⟨a,b,xs,ys,e,qa,qb,q⟩:=q1
  subst e
  obtain ⟨u1,u2,e3,r3,r4⟩:=r1.two
  subst e3
  cases (show u1=Value.ref a from r3)
  cases (show u2=Value.ref b from r4)
  obtain ⟨its,rv,pl,_⟩:=I1.tuple qa
  obtain ⟨its2,rv2,pl2,_⟩:=I1.list qb
  have la:@LT.lt Nat _ a s1.heap.objs.size:=by obtain ⟨o,e,_⟩:=pl;exact Heap.lt_size e
  have lb:@LT.lt Nat _ b s1.heap.objs.size:=by obtain ⟨o,_,e,_⟩:=pl2;exact Heap.lt_size e
  refine VM pl pl2.isList fun h' hz hTI hTO h1 h2 hk=>?_
  refine wpAny_pyIter_zip hz ?_
  have I2:Inv X pins σ H1 { s1 with heap:=h' }:=I1.kept (t':=s1.toks) hk
  refine ⟨s1.heap.objs.size + 4,[s1.heap.objs.size + 4,s1.heap.objs.size + 2,s1.heap.objs.size + 3,s1.heap.objs.size,s1.heap.objs.size + 1],_,_,H1,rfl,I2,
    VY a b (s1.heap.objs.size + 4) xs ys (s1.heap.objs.size + 2) (s1.heap.objs.size + 3) s1.heap.objs.size (s1.heap.objs.size + 1) ?_,⟨hz,hTI,⟨_,_,hTO⟩,h1,h2⟩,fun c hc=>?_,q⟩
  · constructor <;> (refine nne ?_;omega)
  · have hle:@LE.le Nat _ s1.heap.objs.size c:=by
      simp only [List.mem_cons,List.mem_nil_iff,or_false] at hc
      rcases hc with rfl | rfl | rfl | rfl | rfl <;> omega
    exact I1.fpOk hle (I1.hok.fresh hle)
end
theorem GR {K:PySem.W.Frag} {a b:Addr} {xs ys:List V} {g:TG} {tb:TS} {D:Ends} {σ:St} {H:Hp} (hlen:xs.length=ys.length) (Pv:Nat→St→Hp→Prop) (h0:Pv 0 σ H) (hl:∀ i σ H,i≤xs.length→Pv i σ H→SqT K H a xs∧SqL K H b ys)
    (hs:∀ i u v p σ H,xs[i]?=some u→ys[i]?=some v→H p=none→Pv i σ H→g (.ref p) σ (upd H p (.tup [u,v])) fun σ2 H2=>tb { D with nx:=Pv (i + 1),ct:=Pv (i + 1),bk:=D.nx } σ2 H2) (hd:∀ σ H,Pv xs.length σ H→D.nx σ H) :
    ∃ W:Nat→Nat→St→Hp→Prop,(∃ m,W 0 m σ H)∧∀ i m σ H,W i m σ H →
      ((Mb K a b xs ys).stop i H∧D.nx σ H)∨((Mb K a b xs ys).go i H∧∃ N:St→Hp→Prop,(∀ σ' H',N σ' H'→∃ m',m' < m∧W (i + 1) m' σ' H')∧∀ x H',(Mb K a b xs ys).yld i H x H'→g x σ H' fun σ2 H2=>tb { D with nx:=N,ct:=N,bk:=D.nx } σ2 H2):=by
  refine ⟨fun i m σ H=>m=xs.length - i∧i≤xs.length∧Pv i σ H,⟨xs.length - 0,rfl,Nat.zero_le _,h0⟩,?_⟩
  rintro i m σ H ⟨rfl,hi,p⟩
  obtain ⟨qa,qb⟩:=hl i σ H hi p
  by_cases h:i < xs.length
  · refine .inr ⟨⟨qa,qb,h,by omega⟩,Pv (i + 1),fun σ' H' p'=>⟨xs.length - (i + 1),by omega,rfl,h,p'⟩,?_⟩
    rintro x H' ⟨p',u,v,hp,rfl,rfl,hu,hv⟩
    exact hs i u v p' σ H hu hv hp p
  · have e:i=xs.length:=by omega
    subst e
    exact .inl ⟨⟨qa,Nat.le_refl _⟩,hd σ H p⟩
end L2
namespace K22
open PySem L2 TM TT K9 K11
def top (i:Nat):Stmt:=PySem.Challenge.pw_turnery_k22_what_is_made.main.body.getD i (.Pass ⟨0,0,0,0⟩)
abbrev Ot:Stmt:=top 1
abbrev sCO:Stmt:=top 2
abbrev sMP:Stmt:=top 3
abbrev Xp:Stmt:=top 9
abbrev WW:Stmt:=top 10
abbrev X5:Stmt:=top 11
abbrev Ut:Stmt:=top 12
abbrev Uw:Stmt:=top 13
abbrev Lv:Stmt:=top 15
abbrev OP:Stmt:=top 17
abbrev WD:Stmt:=top 18
abbrev UH:Stmt:=top 19
abbrev GI:Stmt:=top 20
abbrev UP:Stmt:=top 21
abbrev Yi:Stmt:=top 23
abbrev Ym:Stmt:=top 24
abbrev Uu:Stmt:=top 28
abbrev Yl:Stmt:=top 29
abbrev Zt:Stmt:=top 30
abbrev GO:Stmt:=top 32
abbrev WC:Stmt:=top 33
abbrev WJ:Stmt:=top 34
abbrev WX:Stmt:=top 35
abbrev Va:Stmt:=top 36
abbrev Jy:Stmt:=top 37
abbrev WB:Stmt:=top 38
abbrev Jg:Stmt:=top 39
abbrev LS:Stmt:=top 40
abbrev U5:Stmt:=top 41
abbrev U0:Stmt:=top 42
abbrev Wt:Stmt:=top 43
abbrev Wg:Stmt:=top 45
abbrev Gz:Stmt:=top 46
abbrev WU:Stmt:=top 47
abbrev G8:Stmt:=top 49
abbrev X0:Stmt:=top 52
structure Gm (mg:Str→Option Value):Prop where
  len:mg "len" = none
  isi:mg "isinstance" = none
  int:mg "int" = none
  boo:mg "bool" = none
  str:mg "str" = none
  tup:mg "tuple" = none
  lst:mg "list" = none
  rng:mg "range" = none
  zip:mg "zip" = none
  dct:mg "dict" = none
  all:mg "all" = none
  srt:mg "sorted" = none
  rev:mg "reversed" = none
  sum:mg "sum" = none
  max:mg "max" = none
theorem Yk {K:PySem.W.Frag} {H:Hp} {v:V} {t:Tm} (h:TmV K H v t):(∃ a m b,v=.ref a∧t=Ze m b∧SqT K H a [.str CALL,.int m,.int b]) ∨
    ∃ a b vs n k ad,v=.ref a∧t=.node (.put n k ad) 0 t.bs∧SqT K H a [.str PUT,.str n,.bl k,.int ad,.ref b]∧SqT K H b vs∧TmAll K H vs t.bs∧vs.length≤1000:=by
  cases h with
  | call h=>exact .inl ⟨_,_,_,rfl,rfl,h⟩
  | put h1 h2 h3 h4=>exact .inr ⟨_,_,_,_,_,_,rfl,rfl,h1,h2,h3,h4⟩
theorem YM {α:Type} {p:α→Bool}:∀ {l:List α} {i:Nat} {x:α},l[i]?=some x→p x=true→(∀ (j:Nat) y,j < i→l[j]?=some y→p y=false)→l.find? p=some x
  | [],i,x,h,_,_=>by simp at h
  | a :: r,0,x,h,hp,_=>by
    have:a=x:=by simpa using h
    subst this
    rw [List.find?_cons,hp]
  | a :: r,i + 1,x,h,hp,hn=>by
    have h0:=hn 0 a (by omega) rfl
    rw [List.find?_cons,h0]
    exact YM (i:=i) (by simpa using h) hp fun j y hj e=>hn (j + 1) y (by omega) (by simpa using e)
theorem Vx {α:Type} {p:α→Bool} {l:List α} (h:∀ (j:Nat) y,l[j]?=some y→p y=false):l.find? p=none:=by
  rw [List.find?_eq_none]
  intro x hx
  obtain ⟨j,hj,e⟩:=List.getElem_of_mem hx
  have:=h j x (by rw [List.getElem?_eq_getElem hj,e])
  simp [this]
def Jr (K:PySem.W.Frag):Sp:=fun vs H Q _=>∃ (v:V) (t:Tm),vs=[v]∧TmV K H v t∧Q (.bl (isC (lab t))) H
def YR (K:PySem.W.Frag):Sp:=fun vs H Q _=>∃ (w:Addr) (kind:Str) (ks:List KdT),vs=[.ref w,.str kind]∧WoodAt K H w ks∧WoodOk ks∧∀ (lr:Addr) (H':Hp),Same H H'→RowsL K H' lr (Qs ks kind)→Q (.ref lr) H'
def Uy (K:PySem.W.Frag):Sp:=fun vs H Q _=>∃ (w:Addr) (kind name:Str) (ks:List KdT),vs=[.ref w,.str kind,.str name]∧WoodAt K H w ks∧WoodOk ks∧∀ (v:V) (H':Hp),Same H H'→Rc K H' v (QW ks kind name)→Q v H'
def Yb (K:PySem.W.Frag) (n:Nat):Sp:=fun vs H Q _=>∃ (w:Addr) (kind:Str) (v:V) (t:Tree Str) (ks:List KdT),vs=[.ref w,.str kind,v]∧WoodAt K H w ks∧WoodOk ks∧TrV K H v t∧lv t≤n∧∀ H':Hp,Same H H'→Q (.bl (isT (QW ks) t kind)) H'
def W3 (K:PySem.W.Frag):Sp:=fun vs H Q _=>∃ (p w lm:Addr) (v:V) (i:Nat) (name:Str) (ks:List KdT) (ms:List MdT) (m:MdT),vs=[.ref p,.int (i:Int),.str name]∧SqT K H p [.ref w,v,.ref lm]∧WoodAt K H w ks∧WoodOk ks∧ModesL K H lm ms∧ms[i]?=some m∧m.2.2.2.2.length=(Qs ks m.2.1).length∧∀ v' H',Same H H'→TmO K H' v' (ruleK ks m.md name)→Q v' H'
def Xy (K:PySem.W.Frag):Sp:=fun vs H Q _=>∃ (a:Addr) (ns:List Int) (k:Int),vs=[.ref a,.int k]∧0≤k∧SqL K H a (ns.map V.int)∧∀ c:Int,Q (.int c) H
def Uq:Sp:=fun vs H Q _=>∃ i:Int,vs=[.int i]∧Q (.bl true) H
def Xu (K:PySem.W.Frag):Sp:=fun vs H Q _=>∃ (v:V) (t:Tree Str),vs=[v]∧TrV K H v t∧∀ (v':V) (H':Hp),Same H H'→TrV K H' v' (upT t)→Q v' H'
section
variable {P:Program} {w:World} {K:PySem.W.Frag} {mg:Str→Option Value} {base:Heap} {f:Addr} {fd:FuncData}
theorem Pd:FnScope ["term"] ["term"] (defScope Ot):=⟨rfl,rfl,rfl,by decide +kernel,rfl,by decide +kernel,by decide +kernel⟩
theorem Of (F:Fun K "is_call" "is_call" Ot f fd):FnOk P w K mg base CX0 1 f fd ["term"] (Jr K):=by
  refine F.ok Pd (fun vs H Q E h=>?_) (fun cdv A outer s H vs Q E hr h=>?_)
  · obtain ⟨v,t,rfl,_⟩:=h
    rfl
  obtain ⟨v,t,rfl,ht,q⟩:=h
  refine ⟨_,(Qi (Qp (Yo ZK (Qj Ql (pv 0) Qd (fun _ _=>rfl)) Q6 (QA _)))),?_⟩
  rcases Yk ht with ⟨a,m,b,rfl,rfl,h1⟩ | ⟨a,b,bs,n,k,ad,rfl,et,h1,h2,h3,h4⟩
  · refine ⟨_,rfl,a,_,0,_,rfl,rfl,h1,rfl,rfl,?_⟩
    have e:decide (V.str CALL=V.str CALL)=true:=decide_eq_true rfl
    show Q (.bl (decide (V.str CALL=V.str CALL))) H
    rw [e];exact q
  · refine ⟨_,rfl,a,_,0,_,rfl,rfl,h1,rfl,rfl,?_⟩
    have e:decide (V.str PUT=V.str CALL)=false:=by decide +kernel
    show Q (.bl (decide (V.str PUT=V.str CALL))) H
    rw [et] at q
    rw [e];exact q
theorem G6:FnScope ["wood", "kind"] ["wood", "kind"] (defScope Xp):=⟨rfl,rfl,rfl,by decide +kernel,rfl,by decide +kernel,by decide +kernel⟩
theorem V2 (F:Fun K "rows_of" "rows_of" Xp f fd) (G:Gm mg):FnOk P w K mg base CX0 1 f fd ["wood", "kind"] (YR K):=by
  refine F.ok G6 (fun vs H Q E h=>?_) (fun cdv A outer s H vs Q E hr h=>?_)
  · obtain ⟨w,kind,ks,rfl,_⟩:=h
    rfl
  obtain ⟨wd,kind,ks,rfl,hW,hO,q⟩:=h
  refine ⟨_,(Qi (Qp (Lz (ZL hr) (QB (Zg rfl) rfl G.dct PyProof.Rows.boot_dict (Qa (pv 0) Qc)) (pv 1) (QE Qc) ⟨rfl,rfl,rfl,rfl⟩))),?_⟩
  have hlen:=hO.len
  refine ⟨_,rfl,wd,ks.map (fun k=>(k.1,k.2.1,V.ref k.2.2.1)),rfl,(by rw [List.map_map];exact hW.1),fun t ht=>?_,(by rw [List.map_map];exact hO.nd),(by rw [List.length_map];omega),fun d hd=>⟨d,rfl,.inl ⟨_,.inl Qb⟩,_,rfl,(by show 0≤sizeLine;decide),fun p hp=>⟨_,DGet.k (k:=Sum.inr kind) ((Qf hp _) _ _ Qb),?_⟩⟩⟩
  · obtain ⟨k,hk,rfl⟩:=List.mem_map.mp ht
    exact (hW.2 k hk).1
  · have g1:=Qf hd (.dK ((ks.map (fun k=>(k.1,k.2.1,V.ref k.2.2.1))).map fun t=>((Sum.inr t.2.1:Key),t.2.2)))
    have g2:=Qf hp (.lst [])
    have g12:=g1.trans g2
    have ev:valV ((ks.map (fun k=>(k.1,k.2.1,V.ref k.2.2.1))).map fun t=>((Sum.inr t.2.1:Key),t.2.2)) (Sum.inr kind)=(ks.find? fun k=>decide (k.2.1=kind)).map fun k=>V.ref k.2.2.1:=by
      rw [List.map_map]
      exact Ux (fun k:KdT=>k.2.1) (fun k=>V.ref k.2.2.1) kind ks
    rw [ev]
    unfold Qs at q
    cases e:ks.find? fun k=>decide (k.2.1=kind) with
    | none =>
      rw [e] at q
      exact q p _ g12 ⟨SqL.of Qb,fun t ht=>(nomatch ht)⟩
    | some k =>
      rw [e] at q
      exact q k.2.2.1 _ g12 ((hW.2 k (List.mem_of_find?_eq_some e)).2.same g12)
theorem MR:FnScope ["wood", "kind", "name"] ["wood", "kind", "name"] (defScope WW):=⟨rfl,rfl,rfl,by decide +kernel,rfl,by decide +kernel,by decide +kernel⟩
theorem L6 (F:Fun K "row_of" "row_of" WW f fd) (G:Gm mg) (RO:Fn P w K mg base 1 "rows_of" ["wood", "kind"] (YR K)):FnOk P w K mg base CX0 2 f fd ["wood", "kind", "name"] (Uy K):=by
  refine F.ok MR (fun vs H Q E h=>?_) (fun cdv A outer s H vs Q E hr h=>?_)
  · obtain ⟨w,kind,name,ks,rfl,_⟩:=h
    rfl
  obtain ⟨wd,kind,name,ks,rfl,hW,hO,q⟩:=h
  refine ⟨_,(Qi (Qp (GY (ZL hr) (QB (Zg rfl) rfl G.dct PyProof.Rows.boot_dict (Qa (Qr RO hr (Qa (pv 0) (Qa (pv 1) Qc))) Qc)) (pv 2) ⟨rfl,rfl,rfl,rfl⟩))),?_⟩
  refine ⟨_,rfl,_,rfl,wd,kind,ks,rfl,hW,hO,fun lr H1 g1 hR=>?_⟩
  have hRo:=Mw hO kind
  have hlen:=hRo.len
  refine ⟨lr,(Qs ks kind).map (fun r=>(r.1,r.2.1,V.ref r.2.2.1)),rfl,(by rw [List.map_map];exact hR.1),fun t ht=>?_,(by rw [List.map_map];exact hRo.nd),(by rw [List.length_map];omega),fun d hd=>⟨d,rfl,.inl ⟨_,.inl Qb⟩,_,rfl,_,DGet.k (k:=Sum.inr name) Qb,?_⟩⟩
  · obtain ⟨k,hk,rfl⟩:=List.mem_map.mp ht
    exact (hR.2 k hk).1
  · have g2:=Qf hd (.dK (((Qs ks kind).map (fun r=>(r.1,r.2.1,V.ref r.2.2.1))).map fun t=>((Sum.inr t.2.1:Key),t.2.2)))
    have ev:valV (((Qs ks kind).map (fun r=>(r.1,r.2.1,V.ref r.2.2.1))).map fun t=>((Sum.inr t.2.1:Key),t.2.2)) (Sum.inr name)=((Qs ks kind).find? fun r=>decide (r.2.1=name)).map fun r=>V.ref r.2.2.1:=by
      rw [List.map_map]
      exact Ux (fun r:PNx=>r.2.1) (fun r=>V.ref r.2.2.1) name (Qs ks kind)
    rw [ev]
    unfold QW at q
    cases e:(Qs ks kind).find? fun r=>decide (r.2.1=name) with
    | none =>
      rw [e] at q
      exact q .non _ (g1.trans g2) rfl
    | some r =>
      rw [e] at q
      exact q (.ref r.2.2.1) _ (g1.trans g2) ⟨_,rfl,g2.seqT (hR.2 r (List.mem_of_find?_eq_some e)).2⟩
theorem WN:FnScope ["wood", "kind", "tree", "branches", "kinds"] ["wood", "kind", "tree"] (defScope X5):=⟨rfl,rfl,rfl,by decide +kernel,rfl,by decide +kernel,by decide +kernel⟩
theorem NJ {n:Nat} (F:Fun K "is_of" "is_of" X5 f fd) (G:Gm mg) (RR:Fn P w K mg base 2 "row_of" ["wood", "kind", "name"] (Uy K)) (R:Fn P w K mg base (n + 2) "is_of" ["wood", "kind", "tree"] (Yb K n)):FnOk P w K mg base CX0 (n + 3) f fd ["wood", "kind", "tree"] (Yb K (n + 1)):=by
  refine F.ok WN (fun vs H Q E h=>?_) (fun cdv A outer s H vs Q E hr h=>?_)
  · obtain ⟨w,kind,v,t,ks,rfl,_⟩:=h
    rfl
  obtain ⟨wd,kind,v,t,ks,rfl,hW,hO,ht,hlv,q⟩:=h
  refine ⟨_,(Qe (Qn (i:=3) WN.nd rfl (Or.inl rfl) (Qj Ql (pv 2) Qd (fun _ _=>rfl)))
    (Qe (Qn (i:=4) WN.nd rfl (Or.inl rfl) (Qr RR hr (Qa (pv 0) (Qa (pv 1) (Qa (Qj Ql (pv 2) Qd (fun _ _=>rfl)) Qc))) (Nat.le_add_left 2 n)))
    (Qe (QT (PW.pt (pw_or (Lp (Oi (pv 4))) (pw_or1 (Qy Mi (Qq Qo rfl G.len PySem.boot_len (Qa (pv 4) Qc)) (Qq Qo rfl G.len PySem.boot_len (Qa (pv 3) Qc)) (QA _))))) (Qi (Qp Z4)) Qx)
    (Qi (Qp (Qq (VP rfl) rfl G.all PyProof.Rows.boot_all (Qa (QI (CompG.many (xs:=["wanted", "branch"]) (caps:=["wood"]) (cap:=[0]) (cs:=[_]) rfl rfl (by decide +kernel) (by decide +kernel) (by decide +kernel) (by decide +kernel) (by decide +kernel) (by decide +kernel) rfl rfl rfl) rfl (W8 rfl G.zip (Qa (pv 4) (Qa (pv 3) Qc))) (X2 (CompG.many (xs:=["wanted", "branch"]) (caps:=["wood"]) (cap:=[0]) (cs:=[_]) rfl rfl (by decide +kernel) (by decide +kernel) (by decide +kernel) (by decide +kernel) (by decide +kernel) (by decide +kernel) rfl rfl rfl) rfl) (fun _ _ _ _=>QX) (fun _ _ _ _=>Qr R hr (Qa (pv 2) (Qa (pv 0) (Qa (pv 1) Qc))) (Nat.le_refl _))) Qc))))))),?_⟩
  obtain ⟨a,b,bs,name,mark,rfl,et,h1,h2,h3,hbl⟩:=NG ht
  have hlen:=h3.length
  rw [L0 _ et] at q
  rw [Zn] at hlv
  refine ⟨_,rfl,a,_,2,_,rfl,rfl,h1,rfl,?_⟩
  refine ⟨_,rfl,_,rfl,_,rfl,a,_,0,_,rfl,rfl,h1,rfl,wd,kind,name,ks,rfl,hW,hO,fun rv H1 g1 hrv=>?_⟩
  cases e:QW ks kind name with
  | none =>
    rw [e] at hrv q
    cases (show rv=.non from hrv)
    exact ⟨_,rfl,_,rfl,Xm rfl (q H1 g1)⟩
  | some ss =>
    rw [e] at hrv q
    obtain ⟨br,rfl,hbr⟩:=hrv
    refine ⟨_,rfl,_,rfl,Wa (fun z=>nomatch z) ⟨_,rfl,br,_,rfl,.inr hbr,_,rfl,b,_,rfl,.inr (g1.seqT h2),rfl,_,rfl,?_⟩⟩
    by_cases hl:ss.length=t.bs.length
    · refine G4 (by rw [List.length_map,hl,hlen]) ?_
      refine ⟨_,rfl,_,rfl,br,b,_,bs,rfl,hbr,g1.seqT h2,fun acc hacc=>?_⟩
      have hzl:(ss.map V.str).length=bs.length:=by rw [List.length_map,hl,hlen]
      refine Nc (K:=K) (xs:=ss.map V.str) (zs:=bs) (cs:=[some (.ref wd)]) (tt:=fun _ H Q=>Q true H) (te:=X6 (Yb K n) [] E0 (Q3 (Zf 2) (Q3 (Zf 0) (Q3 (Zf 1) UA)))) hzl (fun i ys H'=>H' acc=some (.lst ys)∧Same H1 H'∧ys=((List.zipWith (fun s b=>isT (QW ks) b s) ss t.bs).take i).map V.bl)
        ⟨Qb,Qf hacc _,rfl⟩ ?_ ?_ ?_
      · rintro i ys H' _ ⟨_,g,_⟩
        exact ⟨g.seqT hbr,(g1.trans g).seqT h2⟩
      · rintro i u v p ys H' hi hu hv hp ⟨hya,g,rfl⟩
        have his:i < ss.length:=by simpa using hi
        have hib:i < t.bs.length:=by omega
        have hib':i < bs.length:=by omega
        obtain ⟨cv,hcv,hct⟩:=h3.get (List.getElem?_eq_getElem hib)
        obtain rfl:cv=v:=Option.some.inj (hcv.symm.trans hv)
        obtain rfl:u=.str ss[i]:=by
          rw [List.getElem?_map,List.getElem?_eq_getElem his] at hu
          exact (Option.some.inj hu).symm
        have gp:=Qf hp (.tup [.str ss[i],cv])
        have gg:=g1.trans (g.trans gp)
        have a1:=Ud (List.getElem_mem hib)
        refine Q7 ⟨_,rfl,_,rfl,_,rfl,wd,ss[i],cv,t.bs[i],ks,rfl,hW.same gg,hO,hct.mono fun _ _=>gg.seqT,by omega,fun H4 g4=>?_⟩
        refine Qw hi (g4 _ _ (gp _ _ hya)) (by rw [List.length_map,List.length_take,List.length_zipWith];omega) ⟨Qb,fun x u e=>?_,?_⟩
        · rw [Qg (Qh e hacc)];exact g4 _ _ (gp _ _ (g _ _ e))
        · rw [List.take_add_one,List.getElem?_zipWith,List.getElem?_eq_getElem his,List.getElem?_eq_getElem hib,List.map_append]
          rfl
      rintro ys H2 ⟨hya,g2,rfl⟩
      rw [List.take_of_length_le (by rw [List.length_zipWith,List.length_map];omega)] at hya
      refine ⟨acc,_,rfl,SqL.of hya,?_⟩
      have q':=q H2 (g1.trans g2)
      simp only [hl,decide_true,Bool.true_and,XO _ _ _ hl] at q'
      exact q'
    · have e2:(!decide (V.int (((ss.map V.str).length:Nat):Int)=V.int ((bs.length:Nat):Int)))=true:=by
        rw [List.length_map,decide_eq_false]
        · rfl
        · intro z
          injection z with z
          omega
      rw [e2]
      refine Q7 ?_
      have q':=q H1 g1
      simp only [hl,decide_false,Bool.false_and] at q'
      exact q'
theorem V6 {k:Nat}:FnOk P w K mg base CX0 k f fd ["wood", "kind", "tree"] (Yb K 0):=by
  have no:∀ vs H Q E,¬ Yb K 0 vs H Q E:=fun vs H Q E h=>by
    obtain ⟨w,kind,v,t,ks,_,_,_,_,h0,_⟩:=h
    rw [Zn] at h0;omega
  exact ⟨fun vs H Q E h=>absurd h (no vs H Q E),fun A outer s H args us vs Q E _ _ _ _ h=>absurd h (no vs H Q E)⟩
theorem Wc (F:Fun K "is_of" "is_of" X5 f fd) (G:Gm mg) (RR:Fn P w K mg base 2 "row_of" ["wood", "kind", "name"] (Uy K)) (hb:Binds K fd ["wood", "kind", "tree"] []) (hm:mg "is_of" = some (.ref f)):∀ n:Nat,FnOk P w K mg base CX0 (n + 2) f fd ["wood", "kind", "tree"] (Yb K n)
  | 0=>V6
  | n + 1=>NJ F G RR ⟨f,fd,Wc F G RR hb hm n,hb,F.kp,hm⟩
theorem UO:FnScope ["turning", "mode", "name", "kind", "rules", "row", "rule"] ["turning", "mode", "name"] (defScope Lv):=⟨rfl,rfl,rfl,by decide +kernel,rfl,by decide +kernel,by decide +kernel⟩
theorem M5 (F:Fun K "rule_of" "rule_of" Lv f fd) (G:Gm mg) (RO:Fn P w K mg base 1 "rows_of" ["wood", "kind"] (YR K)):FnOk P w K mg base CX0 2 f fd ["turning", "mode", "name"] (W3 K):=by
  refine F.ok UO (fun vs H Q E h=>?_) (fun cdv A outer s H vs Q E hr h=>?_)
  · obtain ⟨p,wd,lm,v,i,name,ks,ms,m,rfl,_⟩:=h
    rfl
  obtain ⟨p,wd,lm,v,i,name,ks,ms,m,rfl,hp,hW,hO,hM,hm,hlen,q⟩:=h
  refine ⟨_,(Qe (Qn (i:=3) UO.nd rfl (Or.inl rfl) (Qj Ql (Qj Qk (Qj Ql (pv 0) Qd (fun _ _=>rfl)) (pv 1) (fun _ _=>rfl)) Qd (fun _ _=>rfl)))
    (Qe (Qn (i:=4) UO.nd rfl (Or.inl rfl) (Qj Ql (Qj Qk (Qj Ql (pv 0) Qd (fun _ _=>rfl)) (pv 1) (fun _ _=>rfl)) Qd (fun _ _=>rfl)))
    (Qe (QU PassesOwn.never rfl (LU rfl G.zip (Qa (Qr RO hr (Qa (Qj Ql (pv 0) Qd (fun _ _=>rfl)) (Qa (pv 3) Qc))) (Qa (pv 4) Qc))) (ZY rfl (QF (Qu (i:=5) UO.nd rfl (Or.inl rfl)) (QF (Qu (i:=6) UO.nd rfl (Or.inl rfl)) Zq)))
      (Qi (QT (Qy ZK (Qj Ql (pv 5) Qd (fun _ _=>rfl)) (pv 2) (QA _)) (Qi (Qp (pv 6))) Qx)))
    (Qi (Qp ZF))))),?_⟩
  have hmm:=List.mem_of_getElem? hm
  have hA:=hM.2 m hmm
  have hat:atI (ms.map fun m=>V.ref m.1) (i:Int)=some (.ref m.1):=Qv (by rw [List.getElem?_map,hm];rfl)
  refine ⟨_,rfl,p,_,2,_,rfl,rfl,hp,rfl,_,rfl,lm,_,_,_,rfl,rfl,hM.1,hat,m.1,_,0,_,rfl,rfl,hA.1,rfl,?_⟩
  refine ⟨_,rfl,p,_,2,_,rfl,rfl,hp,rfl,_,rfl,lm,_,_,_,rfl,rfl,hM.1,hat,m.1,_,1,_,rfl,rfl,hA.1,rfl,?_⟩
  refine ⟨_,rfl,p,_,0,_,rfl,rfl,hp,rfl,_,rfl,wd,m.2.1,ks,rfl,hW,hO,fun lr H1 g1 hR=>⟨_,rfl,lr,m.2.2.1,_,m.2.2.2.1,rfl,hR.1,g1.seq hA.2.1,?_⟩⟩
  have hul:=hA.2.2.length
  have elr:((Qs ks m.2.1).map fun t=>V.ref t.1).length=(Qs ks m.2.1).length:=List.length_map ..
  refine Vu (K:=K) (by rw [elr];omega) (fun j σ H'=>∃ c5 c6,σ=[some (.ref p),some (.int (i:Int)),some (.str name),some (.str m.2.1),some (.ref m.2.2.1),c5,c6]∧Same H1 H'∧∀ (k:Nat) r,k < j→(Qs ks m.2.1)[k]?=some r→r.2.1≠name)
    ⟨none,none,rfl,Same.refl _,fun k r hk _=>by omega⟩ ?_ ?_ ?_
  · rintro j σ H' _ ⟨c5,c6,_,g,_⟩
    exact ⟨g.seq hR.1,(g1.trans g).seq hA.2.1⟩
  · rintro j u v' pp σ H' hu hv hpp ⟨c5,c6,rfl,g,hno⟩
    have hjr:j < (Qs ks m.2.1).length:=by
      have:=(List.getElem?_eq_some_iff.mp hu).1
      simpa using this
    have hjt:j < m.2.2.2.2.length:=by omega
    obtain ⟨cv,hcv,hct⟩:=hA.2.2.get (List.getElem?_eq_getElem hjt)
    obtain rfl:cv=v':=Option.some.inj (hcv.symm.trans hv)
    obtain rfl:u=.ref (Qs ks m.2.1)[j].1:=by
      rw [List.getElem?_map,List.getElem?_eq_getElem hjr] at hu
      exact (Option.some.inj hu).symm
    have gp:=Qf hpp (.tup [.ref (Qs ks m.2.1)[j].1,cv])
    have gg:=g1.trans (g.trans gp)
    have hRA:=(hR.2 _ (List.getElem_mem hjr)).same (g.trans gp)
    refine ⟨pp,_,rfl,SqT.of Qb,rfl,_,_,rfl,_,_,rfl,rfl,?_⟩
    refine ⟨_,rfl,_,_,0,_,rfl,rfl,hRA.1,rfl,_,rfl,rfl,_,rfl,?_⟩
    by_cases he:(Qs ks m.2.1)[j].2.1=name
    · refine Xm (by rw [he]) ⟨_,rfl,q cv _ gg ?_⟩
      have ef:((Qs ks m.2.1).zip m.2.2.2.2).find? (fun x=>decide (x.1.2.1=name))=some ((Qs ks m.2.1)[j],m.2.2.2.2[j]):=by
        refine YM (i:=j) (by rw [List.getElem?_zip_eq_some];exact ⟨List.getElem?_eq_getElem hjr,List.getElem?_eq_getElem hjt⟩) (decide_eq_true he) fun k y hk e=>?_
        rw [List.getElem?_zip_eq_some] at e
        exact decide_eq_false (hno k y.1 hk e.1)
      unfold ruleK MdT.md
      rw [ef]
      exact hct.mono fun _ _=>gg.seqT
    · refine Wa (fun z=>he (by injection z)) ⟨_,_,rfl,g.trans gp,fun k r hk e=>?_⟩
      by_cases hkj:k=j
      · subst hkj
        rw [List.getElem?_eq_getElem hjr] at e
        cases e
        exact he
      · exact hno k r (by omega) e
  · rintro σ H' ⟨c5,c6,rfl,g,hno⟩
    refine q .non H' (g1.trans g) ?_
    have ef:((Qs ks m.2.1).zip m.2.2.2.2).find? (fun x=>decide (x.1.2.1=name))=none:=by
      refine Vx fun k y e=>?_
      rw [List.getElem?_zip_eq_some] at e
      have hk:=(List.getElem?_eq_some_iff.mp e.1).1
      exact decide_eq_false (hno k y.1 (by rw [elr];exact hk) e.1)
    unfold ruleK MdT.md
    rw [ef]
    rfl
theorem Ow:FnScope ["_law_script", "_law_k"] ["_law_script", "_law_k"] (defScope GO):=⟨rfl,rfl,rfl,by decide +kernel,rfl,by decide +kernel,by decide +kernel⟩
theorem Nx (F:Fun K "_law_cell_at" "_law_cell_at" GO f fd) (G:Gm mg):FnOk P w K mg base CX0 1 f fd ["_law_script", "_law_k"] (Xy K):=by
  refine F.ok Ow (fun vs H Q E h=>?_) (fun cdv A outer s H vs Q E hr h=>?_)
  · obtain ⟨a,ns,k,rfl,_⟩:=h
    rfl
  obtain ⟨a,ns,k,rfl,hk0,hS,q⟩:=h
  obtain ⟨j,rfl⟩ : ∃ j:Nat,k=(j:Int):=⟨k.toNat,by omega⟩
  refine ⟨_,(Qe (QT (Qy GJ (pv 1) (Qq Qo rfl G.len PySem.boot_len (Qa (pv 0) Qc)) (QA _)) (Qi (Qp (Qj Qk (pv 0) (pv 1) (fun _ _=>rfl)))) Qx)
    (Qi (Qp Qd))),?_⟩
  refine ⟨_,rfl,_,rfl,a,_,rfl,.inl hS,_,_,rfl,rfl,_,rfl,Y8 (fun c=>?_) (fun c=>?_)⟩
  · have c':(j:Int) < (((ns.map V.int).length:Nat):Int):=of_decide_eq_true c
    rw [List.length_map] at c'
    have hk:j < ns.length:=by omega
    exact ⟨_,rfl,_,rfl,a,_,j,.int ns[j],rfl,rfl,hS,Qv (by rw [List.getElem?_map,List.getElem?_eq_getElem hk];rfl),q _⟩
  · exact q 0
theorem NH:FnScope ["_law_found"] ["_law_found"] (defScope WU):=⟨rfl,rfl,rfl,by decide +kernel,rfl,by decide +kernel,by decide +kernel⟩
theorem LF (F:Fun K "_law_whole" "_law_whole" WU f fd) (G:Gm mg):FnOk P w K mg base CX0 1 f fd ["_law_found"] Uq:=by
  refine F.ok NH (fun vs H Q E h=>?_) (fun cdv A outer s H vs Q E hr h=>?_)
  · obtain ⟨i,rfl,_⟩:=h
    rfl
  obtain ⟨i,rfl,q⟩:=h
  refine ⟨_,(Qi (Qp (Je (Qq Yc rfl G.isi PyProof.Rows.boot_isinstance (Qa (pv 0) (Qa (YK (v:=.ty "int") rfl G.int PyProof.Rows.boot_int rfl) Qc))) (UD (Lo (Qq Yc rfl G.isi PyProof.Rows.boot_isinstance (Qa (pv 0) (Qa (YK (v:=.ty "bool") rfl G.boo PyProof.Rows.boot_bool rfl) Qc)))))))),?_⟩
  exact ⟨_,rfl,_, "int", _,true,rfl,.int _,rfl,_,rfl,Q7 ⟨_,rfl,_, "bool", _,false,rfl,.int _,rfl,_,rfl,q⟩⟩
theorem L5:FnScope ["wood", "kind", "tree"] ["wood", "kind", "tree"] (defScope Ut):=⟨rfl,rfl,rfl,by decide +kernel,rfl,by decide +kernel,by decide +kernel⟩
theorem GD:FnScope ["wood", "tree"] ["wood", "tree"] (defScope Uw):=⟨rfl,rfl,rfl,by decide +kernel,rfl,by decide +kernel,by decide +kernel⟩
theorem Nh:FnScope ["tree"] ["tree"] (defScope WD):=⟨rfl,rfl,rfl,by decide +kernel,rfl,by decide +kernel,by decide +kernel⟩
theorem Xl:Str.ofString "" = S []:=by decide +kernel
theorem Mv (F:Fun K "above" "above" WD f fd):FnOk P w K mg base CX0 1 f fd ["tree"] (Xu K):=by
  refine F.ok Nh (fun vs H Q E h=>?_) (fun cdv A outer s H vs Q E hr h=>?_)
  · obtain ⟨v,t,rfl,_⟩:=h
    rfl
  obtain ⟨v,t,rfl,ht,q⟩:=h
  refine ⟨_,(Qi (Qp (QJ (Qa (Q6) (Qa (Qd) (Qa ((QJ (Qa (pv 0) Qc))) Qc)))))),?_⟩
  refine ⟨_,rfl,(by show 1≤sizeLine;decide),fun p hp=>⟨(by show 3≤sizeLine;decide),fun p2 hp2=>?_⟩⟩
  have g1:=Qf hp (.tup [v])
  have g2:=Qf hp2 (.tup [.str (Str.ofString ""),.int 0,.ref p])
  refine q _ _ (g1.trans g2) ?_
  have h2:=SqT.of (K:=K) (Qb (H:=upd H p (.tup [v])) (a:=p2) (o:=.tup [.str (Str.ofString ""),.int 0,.ref p]))
  rw [Xl] at h2 ⊢
  exact .mk h2 (by rw [← Xl];exact g2.seqT (SqT.of Qb)) (.cons (by rw [← Xl];exact ht.mono fun _ _=>(g1.trans g2).seqT) .nil) (by show 1≤1000;decide)
end
end K22
namespace K22
open PySem L2 TM TT K9 K11
structure TurnAt (K:PySem.W.Frag) (H:Hp) (tu wd lm:Addr) (v:V) (ms:List MdT) (T:Tu):Prop where
  tu:SqT K H tu [.ref wd,v,.ref lm]
  w:WoodAt K H wd T.ks
  m:ModesL K H lm ms
  s:TmV K H v T.start
structure TurnOk (ms:List MdT) (T:Tu):Prop where
  wo:WoodOk T.ks
  me:mds ms=T.ms
  ok:TuOk T
  k0:∃ k,T.ks[0]?=some k∧k.2.1=T.k0
theorem TurnAt.same {K:PySem.W.Frag} {H H':Hp} {tu wd lm:Addr} {v:V} {ms:List MdT} {T:Tu} (g:Same H H') (h:TurnAt K H tu wd lm v ms T):TurnAt K H' tu wd lm v ms T :=
  ⟨g.seqT h.tu,h.w.same g,h.m.same g,h.s.mono fun _ _=>g.seqT⟩
theorem TurnOk.get {ms:List MdT} {T:Tu} (h:TurnOk ms T) {i:Nat} {md:Md} (e:T.ms[i]?=some md):∃ m,ms[i]?=some m∧m.md=md∧m.2.2.2.2.length=(Qs T.ks m.2.1).length:=by
  rw [← h.me,List.getElem?_map] at e
  cases em:ms[i]? with
  | none=>rw [em] at e;cases e
  | some m =>
    rw [em] at e
    obtain rfl:=Option.some.inj e
    refine ⟨m,rfl,rfl,?_⟩
    have hm:m.md ∈ T.ms:=by rw [← h.me];exact List.mem_map.mpr ⟨m,List.mem_of_getElem? em,rfl⟩
    have:=h.ok.rf _ hm
    unfold Zx at this
    simp only [Bool.and_eq_true,decide_eq_true_eq] at this
    exact this.1.2
theorem NP (r:Tree Str):lv (upT r)=lv r + 1:=by simp only [upT,TM.lv,lvs];omega
section
variable {P:Program} {w:World} {K:PySem.W.Frag} {mg:Str→Option Value} {base:Heap} {f:Addr} {fd:FuncData}
end
end K22
namespace L2
open PySem PySem.Spec PyProof.Rows PySem.W
theorem YL:∀ {ss:List Str} {us:List Value},Vals (ss.map V.str) us→StrsAre us ss
  | [],_,.nil=>.nil
  | x :: r,_,.cons h t=>by
    obtain ⟨k,rfl⟩:=(show ∃ t,_=Value.str x t from h)
    exact .cons x k (YL t)
section
variable {X:Cx}
theorem Ve:MtR X "str.join" (fun x vs H Q=>∃ (sep:Str) (l:Addr) (ss:List Str),x=.str sep∧vs=[.ref l]∧SqL X.K H l (ss.map V.str)∧(ss.map (·.length)).sum + ss.length * sep.length≤16777216∧Q (.str (Txt.join sep ss)) H):=by
  intro pins s σ H x xs v us Q I rx rv h
  obtain ⟨sep,l,ss,rfl,rfl,hl,hz,q⟩:=h
  obtain ⟨t,rfl⟩:=(show ∃ t,v=Value.str sep t from rx)
  obtain ⟨u,rfl,ru⟩:=rv.one
  obtain rfl:u=Value.ref l:=ru
  obtain ⟨its,r,p,_⟩:=I.list hl
  exact join_list p.isList (YL r) hz fun t' k=>⟨.str _,H,I.tok _,⟨_,rfl⟩,q⟩
theorem JG:Zw X (.type "range") (fun xs H Q=>∃ n:Int,xs=[.int n]∧0≤n∧n < 2 ^ 20∧∀ p,H p=none→Q (.ref p) (upd H p (.rng 0 n))):=by
  intro pins s σ H xs us Q I r h
  obtain ⟨n,rfl,h0,h1,q⟩:=h
  cases r with
  | cons r rr =>
    cases rr
    obtain ⟨t,rfl⟩:=r
    refine call_range_1 ?_
    refine ⟨.ref s.heap.objs.size,_,I.laid (a:=s.heap.objs.size) (o:=.rng 0 n) (fun b o e=>Heap.get?_push_of_some _ e) (Nat.le_refl _) ⟨_,_,_,Heap.get?_push_size _ rfl⟩,rfl,q _ (I.hok.fresh (Nat.le_refl _))⟩
end
theorem Uk:isSubtype (.type "range_iterator") (.type "reversed")=pure false:=by rw [isSubtype_type];kernel_rfl
section
variable {prog:Program} {w:World} {A:Around} {E:Value→Shared→Prop} {s:Shared}
theorem MX {r:Addr} {n:Int} {t u v:Tok} {Q:Value→Shared→Prop} (hr:s.heap.get? r=some { cls:=.type "range", data:=.fields #[.int 0 t,.int n u,.int 1 v] }) (h0:0≤n) (h1:n < 2 ^ 20)
    (h:Q (.ref s.heap.objs.size) { s with heap:=s.heap.push { cls:=.type "range_iterator", data:=.fields #[rawInt (n - 1),rawInt n,rawInt (-1)] } }):wpAny (model prog w) A (call (.builtin "range.__reversed__") [.ref r]) Q E s:=by
  have ht:s.TypeIs (.ref r) "range" := ⟨_,hr,rfl⟩
  refine wpAny_call_entry PySem.F.slot_range_reversed ht PySem.F.entry_range_reversed ?_ (PySem.F.args_range_reversed_1 _)
  unfold Builtin.«range.__reversed__»
  refine wpAny_bind (wpAny_of_eq (a:=Value.ref r) rfl ?_)
  refine wpAny_bind ?_
  unfold Builtin.Range.rangeFields
  refine wpAny_bind (wpAny_field hr rfl (x:=.int 0 t) rfl ?_)
  refine wpAny_bind (m:=asInt? (.int 0 t)) (wpAny_pure ?_)
  refine wpAny_bind (wpAny_field hr rfl (x:=.int n u) rfl ?_)
  refine wpAny_bind (m:=asInt? (.int n u)) (wpAny_pure ?_)
  refine wpAny_bind (wpAny_field hr rfl (x:=.int 1 v) rfl ?_)
  refine wpAny_bind (m:=asInt? (.int 1 v)) (wpAny_pure ?_)
  refine wpAny_pure ?_
  dsimp only
  have hsz:Builtin.Range.rangeSize 0 n 1=n:=by
    unfold Builtin.Range.rangeSize
    simp only [show ((1:Int) > 0) by decide,if_true]
    split <;> omega
  have hsm:(Builtin.Range.rangeFitsLong 0 && Builtin.Range.rangeFitsLong n && Builtin.Range.rangeFitsLong 1 && Builtin.Range.rangeFitsLong (-1) && Builtin.Range.rangeFitsLong (0 - 1) && Builtin.Range.rangeFitsLong n)=true:=by
    simp only [Builtin.Range.rangeFitsLong,Bool.and_eq_true,Bool.or_eq_true,decide_eq_true_eq]
    omega
  rw [hsz,hsm]
  simp only [Bool.not_true,Bool.false_eq_true,if_false,if_true]
  refine wpAny_bind (wpAny_newObj_type (wpAny_pure ⟨_,rfl,?_⟩))
  have e:(0:Int)+(n - 1) * 1=n - 1:=by omega
  rw [e]
  exact h
theorem Xh {r:Addr} {n:Int} {t u v:Tok} {Q₁:Value→Shared→Prop} (hr:s.heap.get? r=some { cls:=.type "range", data:=.fields #[.int 0 t,.int n u,.int 1 v] }) (h0:0≤n) (h1:n < 2 ^ 20)
    (h:Q₁ (.ref s.heap.objs.size) { s with heap:=s.heap.push { cls:=.type "range_iterator", data:=.fields #[rawInt (n - 1),rawInt n,rawInt (-1)] } }) :
    codeAny (model prog w) A (.call (.builtin "reversed.__new__") ⟨[.type "reversed", .ref r],[]⟩) (wants Q₁ E) s:=by
  have ht:s.TypeIs (.ref r) "range" := ⟨_,hr,rfl⟩
  refine codeAny_of_tree ?_
  show wpAny _ A.in1 (do checkBuiltinCall "reversed.__new__" ⟨[.type "reversed", .ref r],[]⟩;again (.builtin "reversed.__new__" ⟨[.type "reversed", .ref r],[]⟩)) _ _ s
  refine wpAny_bind (wpAny_of_eq (PySem.F.newCall_reversed_1 _) (wpAny_pure ⟨plainId_quiet PySem.F.plain_reversed_new _,codeAny_builtin PySem.F.entry_reversed_new ?_⟩))
  rw [Around.under_plainId PySem.F.plain_reversed_new _]
  unfold Builtin.«reversed.__new__»
  refine wpAny_bind (wpAny_of_eq (newClass_reversed _) ?_)
  try dsimp only
  refine wpAny_bind (wpAny_of_eq (a:=()) (by first | rfl | kernel_rfl) ?_)
  refine wpAny_bind (wpAny_of_eq (a:=()) (by first | rfl | kernel_rfl) ?_)
  try dsimp only
  refine wpAny_bind (wpAny_specialOf ht PySem.F.slot_range_reversed.lookup ?_)
  try dsimp only
  refine wpAny_bind (wpAny_of_eq (PySem.F.slot_range_reversed.bind _) ?_)
  try dsimp only
  first
  | rw [if_neg (show ¬ ((Value.builtin "range.__reversed__" == Value.none)=true) from Bool.false_ne_true)]
  | (show wpAny _ _ (if (Value.builtin "range.__reversed__" == Value.none)=true then _ else _) _ _ _;rw [if_neg (show ¬ ((Value.builtin "range.__reversed__" == Value.none)=true) from Bool.false_ne_true)])
  refine wpAny_bind (wpAny_rule ?_)
  refine wpAny_bind (m:=runValue (.call (.builtin "range.__reversed__") ⟨[.ref r],[]⟩)) (show wpAny _ _ (call (.builtin "range.__reversed__") [.ref r]) _ _ _ from MX hr h0 h1 ?_)
  first
  | exact wpAny_pure h
  | exact wpAny_bind (wpAny_pure (wpAny_pure h))
theorem J8 {r:Addr} {n:Int} {t u v:Tok} {Q:Value→Shared→Prop} (hr:s.heap.get? r=some { cls:=.type "range", data:=.fields #[.int 0 t,.int n u,.int 1 v] }) (h0:0≤n) (h1:n < 2 ^ 20)
    (h:Q (.ref s.heap.objs.size) { s with heap:=s.heap.push { cls:=.type "range_iterator", data:=.fields #[rawInt (n - 1),rawInt n,rawInt (-1)] } }):wpAny (model prog w) A (call (.type "reversed") [.ref r]) Q E s:=by
  refine callType_other (U:="range_iterator") (Q₁:=fun obj s₁=>obj=.ref s.heap.objs.size∧s₁={ s with heap:=s.heap.push { cls:=.type "range_iterator", data:=.fields #[rawInt (n - 1),rawInt n,rawInt (-1)] } }) (by decide +kernel) PySem.F.create_reversed ⟨_,_,PySem.F.mro_reversed⟩ PySem.F.made_reversed Uk (PySem.F.typeCall_reversed_1 _) (Xh hr h0 h1 ⟨rfl,rfl⟩) ?_
  rintro obj s₁ ⟨rfl,rfl⟩
  exact ⟨⟨_,Heap.get?_push_size _ rfl,rfl⟩,h⟩
end
section
variable {X:Cx} {tg:Expr}
def P9 (ta:TA):TI:=fun σ H R=>ta σ H fun vs H1=>∃ (r:Addr) (n:Int),vs=[.ref r]∧H1 r=some (.rng 0 n)∧0≤n∧n < 2 ^ 20∧R (Itd (n - 1) n.toNat) H1
theorem LA {a:Expr} {ta:TA} {p pos:Pos} (hg:Gl X "reversed") (hm:X.mg "reversed" = none) (ha:PA X [a] ta) (hs:starEach [a] X.env=[(false,eval a X.env)]:=by rfl):PI X tg (.Call (.Name "reversed" p) [a] [] pos) (P9 ta):=by
  intro pins s σ H R I h
  refine Call_ (ZS I hg hm boot_reversed (PyProof.Rows.callWith_type1 (thn (ha pos pins s σ H _ I h) fun us s1 ⟨vs,H1,I1,r1,q1⟩=>?_) hs rfl))
  obtain ⟨r,n,e,hr,h0,h1,q⟩:=q1
  subst e
  cases r1 with
  | cons rr rr2 =>
    cases rr2
    obtain rfl:_=Value.ref r:=rr
    obtain ⟨t,u,v,hro⟩:=(show ObjOk X.prog X.w H1 s1.heap r (.rng 0 n) from I1.hok r _ hr)
    refine J8 hro h0 h1 ?_
    have st:IsRangeIter (s1.heap.push { cls:=.type "range_iterator", data:=.fields #[rawInt (n - 1),rawInt n,rawInt (-1)] }) s1.heap.objs.size (n - 1) n (-1):=Heap.get?_push_size _ rfl
    refine wpAny_pyIter_rangeiter st ?_
    have I2:Inv X pins σ H1 { s1 with heap:=s1.heap.push { cls:=.type "range_iterator", data:=.fields #[rawInt (n - 1),rawInt n,rawInt (-1)] },toks:=s1.toks }:=I1.kept fun b o e=>Heap.get?_push_of_some _ e
    refine ⟨s1.heap.objs.size,[s1.heap.objs.size],_,_,H1,rfl,I2,Wm _ (n - 1) n.toNat,?_,fun b hb=>?_,q⟩
    · have e1:n - 1 + ((0:Nat):Int) * (-1)=n - 1:=by omega
      have e2:((n.toNat:Nat):Int) - ((0:Nat):Int)=n:=by omega
      show IsRangeIter _ _ (n - 1 + ((0:Nat):Int) * (-1)) (((n.toNat:Nat):Int) - ((0:Nat):Int)) (-1)
      rw [e1,e2]
      exact st
    · have e:b=s1.heap.objs.size:=by simpa using hb
      subst e
      exact I1.fpOk (Nat.le_refl _) (I1.hok.fresh (Nat.le_refl _))
end
end L2
namespace K22
open PySem L2 TM TT K9 K11
abbrev MM:Int:=2147483647
def Zi:Sp:=fun vs H Q _=>∃ (c k:Int),vs=[.int c,.int k]∧0≤k∧k < 1000000∧∀ x:Int,0≤x→x < MM→Q (.int x) H
def YO:Sp:=fun vs H Q _=>∃ c:Int,vs=[.int c]∧∀ x:Int,Q (.int x) H
def WO:Sp:=fun vs H Q _=>∃ c n:Int,vs=[.int c,.int n]∧∀ (x:Int) (H':Hp),Same H H'→Q (.int x) H'
theorem ZA {xs:List V} {k:Int} (hk:k=(xs.length:Int)) (h:0 < xs.length) (n:Int):∃ v ∈ xs,atI xs (n % k)=some v:=by
  subst hk
  have x0:0≤n % (xs.length:Int):=Int.emod_nonneg _ (by omega)
  have x1:n % (xs.length:Int) < (xs.length:Int):=Int.emod_lt_of_pos _ (by omega)
  obtain ⟨y,hy⟩ : ∃ y:Nat,n % (xs.length:Int)=(y:Int):=⟨_,(Int.toNat_of_nonneg x0).symm⟩
  have hyl:y < xs.length:=by omega
  exact ⟨xs[y],List.getElem_mem hyl,by rw [hy];exact Qv (List.getElem?_eq_getElem hyl)⟩
section
variable {P:Program} {w:World} {K:PySem.W.Frag} {mg:Str→Option Value} {base:Heap} {f:Addr} {fd:FuncData}
theorem J7:FnScope ["_law_cell", "_law_k", "_law_number"] ["_law_cell", "_law_k"] (defScope WC):=⟨rfl,rfl,rfl,by decide +kernel,rfl,by decide +kernel,by decide +kernel⟩
theorem LY (F:Fun K "_law_mixed" "_law_mixed" WC f fd):FnOk P w K mg base CX0 1 f fd ["_law_cell", "_law_k"] Zi:=by
  refine F.ok J7 (fun vs H Q E h=>?_) (fun cdv A outer s H vs Q E hr h=>?_)
  · obtain ⟨c,k,rfl,_⟩:=h
    rfl
  obtain ⟨c,k,rfl,k0,k1,q⟩:=h
  refine ⟨_,(Qe (Qn (i:=2) J7.nd rfl (Or.inl rfl) (Qm QG (Qm Qz (pv 0) Qd) (Qm ZN Qd (Qm QG (pv 1) Qd))))
    (Qe (Qn (i:=2) J7.nd rfl (Or.inl rfl) (Qm Qz (Qm QG (Qm ZN (pv 2) (pv 2)) (Qm ZN Qd (pv 1))) Qd))
    (Qi (Qp (Qm Qz (Qm QG (Qm QG (Qm ZN (pv 2) (pv 2)) (Qm ZN Qd (pv 1))) Qd) Qd))))),?_⟩
  refine ⟨_,rfl,_,_,rfl,rfl,(by show (0:Int) < 2147483647;decide),_,rfl,_,_,rfl,rfl,_,_,rfl,rfl,.inl ⟨by decide,by decide⟩,_,_,rfl,rfl,?_⟩
  dsimp only
  have a0:0≤c % 2147483647:=Int.emod_nonneg _ (by decide)
  have a1:c % 2147483647 < 2147483647:=Int.emod_lt_of_pos _ (by decide)
  generalize hx:c % 2147483647 + 48271 * (k + 1)=x
  refine ⟨_,rfl,_,rfl,_,_,rfl,rfl,.inl ⟨by omega,by omega⟩,_,rfl,_,_,rfl,rfl,.inl ⟨by decide,by decide⟩,_,_,rfl,rfl,_,_,rfl,rfl,(by show (0:Int) < 2147483647;decide),?_⟩
  dsimp only
  generalize hy:(x * x + 69621 * k) % 2147483647=y
  have b0:0≤y:=by rw [← hy];exact Int.emod_nonneg _ (by decide)
  have b1:y < 2147483647:=by rw [← hy];exact Int.emod_lt_of_pos _ (by decide)
  refine ⟨_,rfl,_,rfl,_,_,rfl,rfl,.inl ⟨by omega,by omega⟩,_,rfl,_,_,rfl,rfl,.inl ⟨by decide,by decide⟩,_,_,rfl,rfl,_,_,rfl,rfl,_,_,rfl,rfl,(by show (0:Int) < 2147483647;decide),?_⟩
  exact q _ (Int.emod_nonneg _ (by decide)) (Int.emod_lt_of_pos _ (by decide))
theorem MY:FnScope ["_law_cell"] ["_law_cell"] (defScope WX):=⟨rfl,rfl,rfl,by decide +kernel,rfl,by decide +kernel,by decide +kernel⟩
theorem Lk (F:Fun K "_law_great" "_law_great" WX f fd):FnOk P w K mg base CX0 1 f fd ["_law_cell"] YO:=by
  refine F.ok MY (fun vs H Q E h=>?_) (fun cdv A outer s H vs Q E hr h=>?_)
  · obtain ⟨c,rfl,_⟩:=h
    rfl
  obtain ⟨c,rfl,q⟩:=h
  refine ⟨_,(Qi (Qp (Qm ZO (Qm Qz (pv 0) (Qm QG (Qm ZN Qd (Qm LZ Qd Qd)) Qd)) (Qm LZ Qd Qd)))),?_⟩
  exact ⟨_,rfl,_,_,rfl,rfl,⟨by decide,by decide,by decide⟩,_,_,rfl,rfl,.inl ⟨by decide,by decide⟩,_,_,rfl,rfl,_,_,rfl,rfl,(by show (0:Int) < 2 * 10 ^ 59 + 1;decide),_,_,rfl,rfl,⟨by decide,by decide,by decide⟩,_,_,rfl,rfl,q _⟩
theorem Oh:FnScope ["_law_cell", "_law_number"] ["_law_cell", "_law_number"] (defScope LS):=⟨rfl,rfl,rfl,by decide +kernel,rfl,by decide +kernel,by decide +kernel⟩
theorem M9 (F:Fun K "_law_mark" "_law_mark" LS f fd) (RG:Fn P w K mg base 1 "_law_great" ["_law_cell"] YO):FnOk P w K mg base CX0 2 f fd ["_law_cell", "_law_number"] WO:=by
  refine F.ok Oh (fun vs H Q E h=>?_) (fun cdv A outer s H vs Q E hr h=>?_)
  · obtain ⟨c,n,rfl,_⟩:=h
    rfl
  obtain ⟨c,n,rfl,q⟩:=h
  refine ⟨_,(Qi (Qp (Qj Qk (QE (Qa (Qd) (Qa (Qm ZO (Qm Qz (Qm QZ (pv 1) Qd) Qd) Qd) (Qa (Qr RG hr (Qa (pv 0) Qc)) Qc)))) (Qm Qz (Qm QZ (pv 1) Qd) Qd) (fun _ _=>rfl)))),?_⟩
  refine ⟨_,rfl,_,_,rfl,rfl,⟨by decide,by decide⟩,_,_,rfl,rfl,(by show (0:Int) < 19;decide),_,_,rfl,rfl,_,rfl,c,rfl,fun x=>⟨(by show 3≤sizeLine;decide),fun l hl=>?_⟩⟩
  refine ⟨_,rfl,_,_,rfl,rfl,⟨by decide,by decide⟩,_,_,rfl,rfl,(by show (0:Int) < 3;decide),?_⟩
  obtain ⟨y,hy,hat⟩:=ZA (xs:=[.int 0,.int (n / 2048 % 19 - 9),.int x]) (k:=3) rfl (by show 0 < 3;decide) (n / 64)
  refine ⟨l,_,_,y,rfl,rfl,SqL.of Qb,hat,?_⟩
  have g:=Qf hl (.lst [.int 0,.int (n / 2048 % 19 - 9),.int x])
  simp only [List.mem_cons,List.mem_nil_iff,or_false] at hy
  rcases hy with rfl | rfl | rfl
  · exact q _ _ g
  · exact q _ _ g
  · exact q _ _ g
end
end K22
namespace K22
open PySem L2 TM TT K9 K11
abbrev wts (ks:List KdT):List (Addr × Str × V):=ks.map fun k=>(k.1,k.2.1,V.ref k.2.2.1)
abbrev wkv (ks:List KdT):List (Key × V):=(wts ks).map fun t=>((Sum.inr t.2.1:Key),t.2.2)
section
variable {K:PySem.W.Frag} {H:Hp} {wd:Addr} {ks:List KdT}
theorem wdA (hW:WoodAt K H wd ks):SqL K H wd ((wts ks).map fun t=>V.ref t.1):=by rw [List.map_map];exact hW.1
theorem wdB (hW:WoodAt K H wd ks):∀ t ∈ wts ks,SqT K H t.1 [.str t.2.1,t.2.2]:=fun t ht=>by
  obtain ⟨k,hk,rfl⟩:=List.mem_map.mp ht
  exact (hW.2 k hk).1
theorem wdC (hO:WoodOk ks):((wts ks).map fun t=>t.2.1).Nodup:=by rw [List.map_map];exact hO.nd
theorem wdD (hO:WoodOk ks):(wts ks).length≤1000:=by rw [List.length_map];have:=hO.len;omega
end
theorem OH {H:Hp} {d:Addr} {ks:List KdT} {kind:Str} (h:H d=some (.dK (wkv ks))):DGet H d (.str kind) ((ks.find? fun k=>decide (k.2.1=kind)).map fun k=>V.ref k.2.2.1):=by
  have hdg:=DGet.k (k:=Sum.inr kind) h
  have e:valV (wkv ks) (Sum.inr kind)=(ks.find? fun k=>decide (k.2.1=kind)).map fun k=>V.ref k.2.2.1:=by
    unfold wkv wts
    rw [List.map_map]
    exact Ux (fun k:KdT=>k.2.1) (fun k=>V.ref k.2.2.1) kind ks
  rw [e] at hdg
  exact hdg
theorem Xc {H:Hp} {d:Addr} {ks:List KdT} {kind:Str} {k:KdT} (h:H d=some (.dK (wkv ks))) (e:ks.find? (fun k=>decide (k.2.1=kind))=some k):DGet H d (.str kind) (some (.ref k.2.2.1)):=by
  have z:=OH (kind:=kind) h
  rw [e] at z
  exact z
def YC (K:PySem.W.Frag):Sp:=fun vs H Q _=>∃ (p w lm:Addr) (v:V) (i:Nat) (name:Str) (ks:List KdT) (ms:List MdT) (m:MdT),vs=[.ref p,.int (i:Int),.str name]∧SqT K H p [.ref w,v,.ref lm]∧WoodAt K H w ks∧WoodOk ks∧ModesL K H lm ms∧ms[i]?=some m∧m.2.2.2.2.length=(Qs ks m.2.1).length∧Qs ks m.2.1≠[]∧∀ v' H',Same H H'→TmO K H' v' (ruleK ks m.md name)→Q v' H'
theorem TurnOk.ne {ms:List MdT} {T:Tu} (h:TurnOk ms T) {i:Nat} {m:MdT} (e:ms[i]?=some m):Qs T.ks m.2.1≠[]:=by
  have hm:m.md ∈ T.ms:=by rw [← h.me];exact List.mem_map.mpr ⟨m,List.mem_of_getElem? e,rfl⟩
  have:=h.ok.rf _ hm
  unfold Zx at this
  simp only [Bool.and_eq_true,decide_eq_true_eq] at this
  intro z
  have z':Qs T.ks m.md.1=[]:=z
  rw [z'] at this
  exact this.1.1 rfl
section
variable {P:Program} {w:World} {K:PySem.W.Frag} {mg:Str→Option Value} {base:Heap} {f:Addr} {fd:FuncData}
theorem YG:FnScope ["_law_turning_here", "_law_mode", "_law_name", "_law_kind", "_law_rules", "_law_row", "_law_rule_here"] ["_law_turning_here", "_law_mode", "_law_name"] (defScope Wt):=⟨rfl,rfl,rfl,by decide +kernel,rfl,by decide +kernel,by decide +kernel⟩
theorem GT (F:Fun K "_law_rule" "_law_rule" Wt f fd) (G:Gm mg):FnOk P w K mg base CX0 1 f fd ["_law_turning_here", "_law_mode", "_law_name"] (YC K):=by
  refine F.ok YG (fun vs H Q E h=>?_) (fun cdv A outer s H vs Q E hr h=>?_)
  · obtain ⟨p,wd,lm,v,i,name,ks,ms,m,rfl,_⟩:=h
    rfl
  obtain ⟨p,wd,lm,v,i,name,ks,ms,m,rfl,hp,hW,hO,hM,hm,hlen,hne,q⟩:=h
  refine ⟨_,(Qe (Yu (Qj Qk (Qj Ql (pv 0) Qd (fun _ _=>rfl)) (pv 1) (fun _ _=>rfl)) (ZY rfl (QF (Qu (i:=3) YG.nd rfl (Or.inl rfl)) (QF (Qu (i:=4) YG.nd rfl (Or.inl rfl)) Zq))))
    (Qe (QU PassesOwn.never rfl (LU rfl G.zip (Qa (Zy (ZL hr) (QB (Zg rfl) rfl G.dct PyProof.Rows.boot_dict (Qa (Qj Ql (pv 0) Qd (fun _ _=>rfl)) Qc)) (pv 3) (fun _ _=>rfl)) (Qa (pv 4) Qc))) (ZY rfl (QF (Qu (i:=5) YG.nd rfl (Or.inl rfl)) (QF (Qu (i:=6) YG.nd rfl (Or.inl rfl)) Zq)))
      (Qi (QT (Qy ZK (Qj Ql (pv 5) Qd (fun _ _=>rfl)) (pv 2) (QA _)) (Qi (Qp (pv 6))) Qx)))
    (Qi (Qp ZF)))),?_⟩
  have hmm:=List.mem_of_getElem? hm
  have hA:=hM.2 m hmm
  have hat:atI (ms.map fun m=>V.ref m.1) (i:Int)=some (.ref m.1):=Qv (by rw [List.getElem?_map,hm];rfl)
  obtain ⟨kd,hkd⟩ : ∃ kd,ks.find? (fun k=>decide (k.2.1=m.2.1))=some kd:=by
    cases e:ks.find? fun k=>decide (k.2.1=m.2.1) with
    | none=>exact absurd (by unfold Qs;rw [e];rfl) hne
    | some kd=>exact ⟨kd,rfl⟩
  have erow:Qs ks m.2.1=kd.2.2.2:=by unfold Qs;rw [hkd];rfl
  refine ⟨_,rfl,p,_,2,_,rfl,rfl,hp,rfl,_,rfl,lm,_,_,_,rfl,rfl,hM.1,hat,m.1,_,rfl,hA.1,rfl,_,_,rfl,_,_,rfl,rfl,?_⟩
  refine ⟨_,rfl,p,_,0,_,rfl,rfl,hp,rfl,wd,wts ks,rfl,wdA hW,wdB hW,wdC hO,wdD hO,fun d hd=>⟨_,rfl,d,.ref kd.2.2.1,rfl,Xc Qb hkd,?_⟩⟩
  have g1:=Qf hd (.dK (wkv ks))
  have hR:RowsL K (upd H d (.dK (wkv ks))) kd.2.2.1 (Qs ks m.2.1):=by rw [erow];exact (hW.2 kd (List.mem_of_find?_eq_some hkd)).2.same g1
  generalize upd H d (.dK (wkv ks))=H1 at g1 hR ⊢
  refine ⟨_,rfl,kd.2.2.1,m.2.2.1,_,m.2.2.2.1,rfl,hR.1,g1.seq hA.2.1,?_⟩
  have hul:=hA.2.2.length
  have elr:((Qs ks m.2.1).map fun t=>V.ref t.1).length=(Qs ks m.2.1).length:=List.length_map ..
  refine Vu (K:=K) (by rw [elr];omega) (fun j σ H'=>∃ c5 c6,σ=[some (.ref p),some (.int (i:Int)),some (.str name),some (.str m.2.1),some (.ref m.2.2.1),c5,c6]∧Same H1 H'∧∀ (k:Nat) r,k < j→(Qs ks m.2.1)[k]?=some r→r.2.1≠name)
    ⟨none,none,rfl,Same.refl _,fun k r hk _=>by omega⟩ ?_ ?_ ?_
  · rintro j σ H' _ ⟨c5,c6,_,g,_⟩
    exact ⟨g.seq hR.1,(g1.trans g).seq hA.2.1⟩
  · rintro j u v' pp σ H' hu hv hpp ⟨c5,c6,rfl,g,hno⟩
    have hjr:j < (Qs ks m.2.1).length:=by
      have:=(List.getElem?_eq_some_iff.mp hu).1
      simpa using this
    have hjt:j < m.2.2.2.2.length:=by omega
    obtain ⟨cv,hcv,hct⟩:=hA.2.2.get (List.getElem?_eq_getElem hjt)
    obtain rfl:cv=v':=Option.some.inj (hcv.symm.trans hv)
    obtain rfl:u=.ref (Qs ks m.2.1)[j].1:=by
      rw [List.getElem?_map,List.getElem?_eq_getElem hjr] at hu
      exact (Option.some.inj hu).symm
    have gp:=Qf hpp (.tup [.ref (Qs ks m.2.1)[j].1,cv])
    have gg:=g1.trans (g.trans gp)
    have hRA:=(hR.2 _ (List.getElem_mem hjr)).same (g.trans gp)
    refine ⟨pp,_,rfl,SqT.of Qb,rfl,_,_,rfl,_,_,rfl,rfl,?_⟩
    refine ⟨_,rfl,_,_,0,_,rfl,rfl,hRA.1,rfl,_,rfl,rfl,_,rfl,?_⟩
    by_cases he:(Qs ks m.2.1)[j].2.1=name
    · refine Xm (by rw [he]) ⟨_,rfl,q cv _ gg ?_⟩
      have ef:((Qs ks m.2.1).zip m.2.2.2.2).find? (fun x=>decide (x.1.2.1=name))=some ((Qs ks m.2.1)[j],m.2.2.2.2[j]):=by
        refine YM (i:=j) (by rw [List.getElem?_zip_eq_some];exact ⟨List.getElem?_eq_getElem hjr,List.getElem?_eq_getElem hjt⟩) (decide_eq_true he) fun k y hk e=>?_
        rw [List.getElem?_zip_eq_some] at e
        exact decide_eq_false (hno k y.1 hk e.1)
      unfold ruleK MdT.md
      rw [ef]
      exact hct.mono fun _ _=>gg.seqT
    · refine Wa (fun z=>he (by injection z)) ⟨_,_,rfl,g.trans gp,fun k r hk e=>?_⟩
      by_cases hkj:k=j
      · subst hkj
        rw [List.getElem?_eq_getElem hjr] at e
        cases e
        exact he
      · exact hno k r (by omega) e
  · rintro σ H' ⟨c5,c6,rfl,g,hno⟩
    refine q .non H' (g1.trans g) ?_
    have ef:((Qs ks m.2.1).zip m.2.2.2.2).find? (fun x=>decide (x.1.2.1=name))=none:=by
      refine Vx fun k y e=>?_
      rw [List.getElem?_zip_eq_some] at e
      have hk:=(List.getElem?_eq_some_iff.mp e.1).1
      exact decide_eq_false (hno k y.1 (by rw [elr];exact hk) e.1)
    unfold ruleK MdT.md
    rw [ef]
    rfl
end
end K22
namespace L2
open PySem PySem.Builtin PySem.Builtin.Str
theorem Vz {q:Nat}:∀ (l:List Nat) (n:Nat),(∀ c ∈ l,(reprChar q c).length≤2)→l.foldl (fun n c=>n + (reprChar q c).length) n≤n + 2 * l.length
  | [],n,_=>by simp
  | c :: r,n,h=>by
    have h1:=h c List.mem_cons_self
    have h2:=Vz r (n + (reprChar q c).length) fun d hd=>h d (List.mem_cons_of_mem _ hd)
    simp only [List.foldl_cons,List.length_cons]
    omega
theorem MZ {x:PySem.Str} (h:∀ c ∈ x.cps.toList,∀ q,(reprChar q c).length≤2):(reprText x).length≤2 * x.length + 2:=by
  have h1:=foldl_repr_eq (reprQuote x) x.cps.toList #[reprQuote x] 0
  have h2:=Vz (q:=reprQuote x) x.cps.toList 0 fun c hc=>h c hc _
  show ((x.cps.foldl (fun out c=>out ++ (reprChar (reprQuote x) c).toArray) #[reprQuote x]).push (reprQuote x)).size≤2 * x.cps.size + 2
  rw [Array.size_push,← Array.foldl_toList]
  have e1:(#[reprQuote x]:Array Nat).size=1:=rfl
  have e2:x.cps.toList.length=x.cps.size:=Array.length_toList
  omega
theorem Mt {c:Nat} (h:Unicode.isPrintable c=true) (q:Nat):(reprChar q c).length≤2:=by
  unfold reprChar
  dsimp only
  split
  · simp
  split
  · simp
  split
  · simp
  split
  · simp
  simp [h]
end L2
namespace K22
open PySem L2 TM TT K9 K11
theorem XJ (cs:List Nat):Txt.join (S []) (cs.map fun c=>S [c])=S cs:=by
  unfold Txt.join
  cases cs with
  | nil=>rfl
  | cons x r =>
    have h:∀ (r:List Nat) (a:List Nat),(r.map fun c=>S [c]).foldl (fun acc p=>acc ++ (S []).cps ++ p.cps) (S a).cps=(S (a ++ r)).cps:=by
      intro r
      induction r with
      | nil=>intro a;simp
      | cons y r ih =>
        intro a
        rw [List.map_cons,List.foldl_cons]
        have e:(S a).cps ++ (S []).cps ++ (S [y]).cps=(S (a ++ [y])).cps:=by simp [S]
        rw [e,ih,List.append_assoc];rfl
    have:=h r [x]
    show (⟨(r.map fun c=>S [c]).foldl (fun acc p=>acc ++ (S []).cps ++ p.cps) (S [x]).cps⟩ : Str)=_
    rw [this];rfl
abbrev Xf:Str:=Str.ofString "abcdefghijklmnopqrstuvwxyz"
def ZI:List Nat:=[97,98,99,100,101,102,103,104,105,106,107,108,109,110,111,112,113,114,115,116,117,118,119,120,121,122]
theorem Lu:Xf=S ZI:=by decide +kernel
theorem Nt:Xf.cps.toList=ZI:=by rw [Lu,GX]
theorem W9:Str.ofString "" = S []:=by decide +kernel
def Nm (z:Str):Prop:=PyData.strOk z=true
theorem Nm.of {u:List Nat} (h:∀ c ∈ u,c < 128):Nm (S u):=by
  unfold Nm PyData.strOk
  rw [Array.all_eq_true_iff_forall_mem]
  intro c hc
  have:c ∈ u:=by simpa [S] using hc
  have:=h c this
  simp;omega
theorem GS {i j:Nat} (hi:i < 26) (hj:j < 26) (e:ZI.getD i 0=ZI.getD j 0):i=j:=by
  have hn:ZI.Nodup:=by decide
  have h1:ZI.getD i 0=ZI[i]'hi:=by rw [List.getD_eq_getElem?_getD,List.getElem?_eq_getElem (show i < ZI.length from hi)];rfl
  have h2:ZI.getD j 0=ZI[j]'hj:=by rw [List.getD_eq_getElem?_getD,List.getElem?_eq_getElem (show j < ZI.length from hj)];rfl
  rw [h1,h2] at e
  exact (List.getElem_inj hn).mp e
theorem XF {i:Nat} (hi:i < 26):ZI.getD i 0 ∈ ZI∧ZI[i]?=some (ZI.getD i 0):=by
  have hl:i < ZI.length:=hi
  have e:ZI.getD i 0=ZI[i]:=by rw [List.getD_eq_getElem?_getD,List.getElem?_eq_getElem hl];rfl
  rw [e]
  exact ⟨List.getElem_mem hl,List.getElem?_eq_getElem hl⟩
theorem WV:∀ c ∈ ZI,c < 128:=by decide
def code (j:Nat):Nat:=ZI.getD j 0
abbrev NW (K:PySem.W.Frag):V→List V→Hp→VK→Prop:=fun x vs H Q=>∃ (sep:Str) (l:Addr) (ss:List Str),x=.str sep∧vs=[.ref l]∧SqL K H l (ss.map V.str)∧(ss.map (·.length)).sum + ss.length * sep.length≤16777216∧Q (.str (Txt.join sep ss)) H
abbrev NV (bs:List Nat):List V:=bs.map fun (b:Nat)=>V.int (b:Int)
theorem OJ {X:Cx} {K:PySem.W.Frag} {o e:Expr} {es:List Expr} {to:TE} {t:TA} {name:Str} {apos cpos:Pos} {T id:String} {r:V→List V→Hp→VK→Prop} (hK:X.K=K) (pa:PlainAttrs T) (slot:Slot T name id) (hty:typeOf (.builtin id)=pure (.type "method_descriptor")) (hm:MtR X id r) (ho:PE X o to) (ha:PA X (e :: es) t)
    (hbase:attributeBase o name X.env (eval o X.env)=eval o X.env:=by rfl)
    (hfew:((backTo cpos (starEach (e :: es) X.env)).all (fun x=>!x.1) && (backToKw cpos (keywordEach [] X.env)).all (fun x=>x.1.isSome)
      && decide ((e :: es).length + ([]:List Keyword).length + (if ([]:List Keyword).isEmpty then 0 else 1) < 30))=true:=by rfl)
    (hline:(apos.endLine == cpos.line)=true:=by rfl) (hs:starEach (e :: es) X.env=(false,eval e X.env) :: starEach es X.env:=by rfl) (hplain:(backTo cpos (starEach es X.env)).any (·.1)=false:=by rfl) :
    PE X (.Call (.Attribute o name apos) (e :: es) [] cpos) (tBM K T r to t):=by
  subst hK
  exact ZB pa slot hty hm ho ha hbase hfew hline hs hplain
theorem G9 {X:Cx} {K:PySem.W.Frag} {tg l:Expr} {tl:TE} (hK:X.K=K) (hl:PE X l tl):PI X tg l (NS K tl):=by
  subst hK
  exact QY hl
theorem JB {α:Type} (g:Nat→α) (n:Nat) (h:∀ i j,i < n→j < n→g i=g j→i=j):((List.range n).map g).Nodup:=by
  rw [List.Nodup,List.pairwise_map]
  refine (List.nodup_range (n:=n)).imp_of_mem fun {a b} ha hb hne e=>hne (h a b (List.mem_range.mp ha) (List.mem_range.mp hb) e)
theorem Vv {bs:List Nat} (h:∀ b ∈ bs,b < 26):PyData.strOk (S (bs.map code))=true:=Nm.of fun c hc=>by
  obtain ⟨b,hb,rfl⟩:=List.mem_map.mp hc
  exact WV _ (XF (h b hb)).1
theorem UX {cs:List Nat} (h:cs.length≤8):((cs.map fun c=>S [c]).map (·.length)).sum + (cs.map fun c=>S [c]).length * (S []).length≤16777216:=by
  have e:((cs.map fun c=>S [c]).map (·.length))=cs.map fun _=>1:=by
    rw [List.map_map]
    exact List.map_congr_left fun c _=>by simp [Vo]
  have e2:(cs.map fun _=>1).sum=cs.length:=by
    clear e h
    induction cs with
    | nil=>rfl
    | cons x r ih=>rw [List.map_cons,List.sum_cons,ih,List.length_cons];omega
  rw [e,e2,Vo]
  simp only [List.length_nil,Nat.mul_zero]
  omega
theorem OR {y:Nat} (hy:y < 26):atI Xf.cps.toList ((y:Nat):Int)=some (code y):=by rw [Nt];exact Qv (XF hy).2
def LN (z:Str):Prop:=∃ bs:List Nat,z=S (bs.map code)∧bs.length≤8∧∀ b ∈ bs,b < 26
theorem Wj:∀ b,b < 26→Unicode.isPrintable (code b)=true:=by decide +kernel
theorem LN.rep {z:Str} (h:LN z):(reprText z).length≤1000:=by
  obtain ⟨bs,rfl,hl,hb⟩:=h
  have h1:=MZ (x:=S (bs.map code)) fun c hc q=>by
    have hc':c ∈ bs.map code:=by simpa [S] using hc
    obtain ⟨b,hbm,rfl⟩:=List.mem_map.mp hc'
    exact Mt (Wj b (hb b hbm)) q
  rw [Vo,List.length_map] at h1
  omega
def Xq (K:PySem.W.Frag):Sp:=fun vs H Q _=>∃ c:Int,vs=[.int c]∧∀ (l:Addr) (H':Hp) (ns:List Str),Same H H'→H' l=some (.lst (ns.map V.str))→ns.length=8→ns.Nodup→(∀ n ∈ ns,PyData.strOk n=true)→(∀ n ∈ ns,LN n)→Q (.ref l) H'
section
variable {P:Program} {w:World} {K:PySem.W.Frag} {mg:Str→Option Value} {base:Heap} {f:Addr} {fd:FuncData}
theorem ZD:FnScope ["_law_cell", "_law_letters", "_law_base", "_law_width", "_law_spot", "_law_names_here", "_law_k", "_law_moved"] ["_law_cell"] (defScope WJ):=⟨rfl,rfl,rfl,by decide +kernel,rfl,by decide +kernel,by decide +kernel⟩
theorem Ma (F:Fun K "_law_names" "_law_names" WJ f fd) (G:Gm mg) (RM:Fn P w K mg base 1 "_law_mixed" ["_law_cell", "_law_k"] Zi):FnOk P w K mg base CX0 2 f fd ["_law_cell"] (Xq K):=by
  refine F.ok ZD (fun vs H Q E h=>?_) (fun cdv A outer s H vs Q E hr h=>?_)
  · obtain ⟨c,rfl,_⟩:=h
    rfl
  obtain ⟨c,rfl,q⟩:=h
  refine ⟨_,(Qe (Qn (i:=1) ZD.nd rfl (Or.inr rfl) Q6)
    (Qe (Qn (i:=2) ZD.nd rfl (Or.inr rfl) (QI (CompG.many (xs:=["_law_j"]) (caps:=["_law_cell"]) (cap:=[0]) (cs:=[_]) rfl rfl (by decide +kernel) (by decide +kernel) (by decide +kernel) (by decide +kernel) (by decide +kernel) (by decide +kernel) rfl rfl rfl) rfl (QO rfl G.rng (Qa (Qd) Qc)) (Zk (CompG.many (xs:=["_law_j"]) (caps:=["_law_cell"]) (cap:=[0]) (cs:=[_]) rfl rfl (by decide +kernel) (by decide +kernel) (by decide +kernel) (by decide +kernel) (by decide +kernel) (by decide +kernel) rfl rfl rfl)) (fun _ _ _ _=>QX) (fun _ _ _ _=>Qm (r:=rI (fun _ j=>0 < j) fun i j=>.int (i % j)) Qz (Qr RM hr (Qa (pv 1) (Qa (pv 0) Qc))) Qd)))
    (Qe (QT (Qy ZK (Qm Qz (Qm QZ (pv 0) Qd) Qd) Qd (QA _)) (Qi (Qp (QI (CompG.many (xs:=["_law_k"]) (caps:=["_law_base", "_law_letters"]) (cap:=[2,1]) (cs:=[_,_]) rfl rfl (by decide +kernel) (by decide +kernel) (by decide +kernel) (by decide +kernel) (by decide +kernel) (by decide +kernel) rfl rfl rfl) rfl (QO rfl G.rng (Qa (Qd) Qc)) (Zk (CompG.many (xs:=["_law_k"]) (caps:=["_law_base", "_law_letters"]) (cap:=[2,1]) (cs:=[_,_]) rfl rfl (by decide +kernel) (by decide +kernel) (by decide +kernel) (by decide +kernel) (by decide +kernel) (by decide +kernel) rfl rfl rfl)) (fun _ _ _ _=>QX)
      (fun _ _ _ _=>OJ (K:=K) (r:=NW K) rfl PySem.F.plainAttrs_str PySem.F.slot_str_join PySem.F.type_str_join Ve Q6 (Qa (QI (CompG.many (xs:=["_law_j"]) (caps:=["_law_letters"]) (cap:=[2]) (cs:=[_]) rfl rfl (by decide +kernel) (by decide +kernel) (by decide +kernel) (by decide +kernel) (by decide +kernel) (by decide +kernel) rfl rfl rfl) rfl (G9 (K:=K) rfl (YB (r:=PJ K) Uz (pv 1) JZ (YS (Qm (r:=rI0 fun i j=>.int (i + j)) QG (pv 0) Qd)))) (Zk (CompG.many (xs:=["_law_j"]) (caps:=["_law_letters"]) (cap:=[2]) (cs:=[_]) rfl rfl (by decide +kernel) (by decide +kernel) (by decide +kernel) (by decide +kernel) (by decide +kernel) (by decide +kernel) rfl rfl rfl)) (fun _ _ _ _=>QX) (fun _ _ _ _=>Qj Me (pv 1) (pv 0) (fun _ _=>rfl))) Qc))))) Qx)
    (Qe (Qn (i:=3) ZD.nd rfl (Or.inl rfl) (Qm QG Qd (Qm Qz (pv 0) Qd)))
    (Qe (Qn (i:=4) ZD.nd rfl (Or.inl rfl) (Qm Qz (Qm QZ (pv 0) Qd) (pv 3)))
    (Qe (Qn (i:=5) ZD.nd rfl (Or.inl rfl) (QE Qc))
    (Qe (QU PassesOwn.never rfl (QO rfl G.rng (Qa (Qd) Qc)) (Qu (i:=6) ZD.nd rfl (Or.inl rfl)) (Qe (Qn (i:=7) ZD.nd rfl (Or.inl rfl) (YB Uz (pv 2) JZ (YS (pv 3))))
    (Qe (Yu (Qm Qz (Qm QG (Qj Qk (pv 7) (pv 4) (fun _ _=>rfl)) (pv 6)) Qd) (Xj (pv 7) (pv 4) YF))
    (Qi (Q2 (ZB PySem.F.plainAttrs_list PySem.F.slot_list_append PySem.F.type_list_append Q0 (pv 5) (Qa (ZB (r:=NW K) PySem.F.plainAttrs_str PySem.F.slot_str_join PySem.F.type_str_join Ve Q6 (Qa (QI (CompG.many (xs:=["_law_j"]) (caps:=["_law_letters"]) (cap:=[1]) (cs:=[_]) rfl rfl (by decide +kernel) (by decide +kernel) (by decide +kernel) (by decide +kernel) (by decide +kernel) (by decide +kernel) rfl rfl rfl) rfl (QY (pv 7)) (Zk (CompG.many (xs:=["_law_j"]) (caps:=["_law_letters"]) (cap:=[1]) (cs:=[_]) rfl rfl (by decide +kernel) (by decide +kernel) (by decide +kernel) (by decide +kernel) (by decide +kernel) (by decide +kernel) rfl rfl rfl)) (fun _ _ _ _=>QX) (fun _ _ _ _=>Qj Me (pv 1) (pv 0) (fun _ _=>rfl))) Qc)) Qc)))))))
    (Qi (Qp (pv 5)))))))))),?_⟩
  have eL:Str.ofString "abcdefghijklmnopqrstuvwxyz" = Xf:=rfl
  refine ⟨8,rfl,by decide,by decide,fun lb hlb=>?_⟩
  refine ZJ (lo:=0) (n:=8) (cs:=[some (.int c)]) (tt:=fun _ H Q=>Q true H) (fun j ys H'=>∃ bs:List Nat,ys=NV bs∧bs.length=j∧(∀ b ∈ bs,b < 26)∧H' lb=some (.lst ys)∧Same H H')
    ⟨[],rfl,rfl,fun b hb=>(nomatch hb),Qb,Qf hlb _⟩ ?_ ?_
  · rintro j ys H' hj ⟨bs,rfl,hbl,hb26,hy,g⟩
    refine Q7 ⟨_,rfl,_,rfl,c,0 + (j:Int),rfl,by omega,by omega,fun x x0 x1=>⟨_,_,rfl,rfl,(by show (0:Int) < 26;decide),?_⟩⟩
    have y0:0≤x % 26:=Int.emod_nonneg _ (by decide)
    have y1:x % 26 < 26:=Int.emod_lt_of_pos _ (by decide)
    refine Qw hj hy (by rw [List.length_map];omega) ⟨bs ++ [(x % 26).toNat],?_,by rw [List.length_append,List.length_singleton,hbl],fun b hb=>?_,Qb,fun z u e=>?_⟩
    · unfold NV
      rw [List.map_append]
      show _ ++ [V.int (x % 26)]=_ ++ [V.int (((x % 26).toNat:Nat):Int)]
      rw [Int.toNat_of_nonneg y0]
    · rcases List.mem_append.mp hb with hb | hb
      · exact hb26 b hb
      · have:b=(x % 26).toNat:=by simpa using hb
        rw [this];omega
    · rw [Qg (Qh e hlb)];exact g _ _ e
  rintro ys H1 ⟨bs,rfl,hbl,hb26,hlb1,g1⟩
  have word:∀ (us:List Nat) (l2 lu:Addr) (Hx:Hp) (R:Hp→Prop),Hx l2=none→Hx lu=some (.lst (NV us))→us.length≤8→(∀ b ∈ us,b < 26) →
      (∀ H',Same Hx H'→H' l2=some (.lst (((us.map code).map fun c=>S [c]).map V.str))→R H')→UE (Itl K lu) 1 [some (.str Xf)] (Zo 0) (fun _ H Q=>Q true H) (tOp O9 (Zf 1) (Zf 0)) Hx l2 R:=by
    intro us l2 lu Hx R h2 hu hul hu26 hR
    have hne:lu≠l2:=fun z=>by rw [z,h2] at hu;cases hu
    refine ZT (K:=K) (xs:=NV us) (cs:=[some (.str Xf)]) (fun m ys H'=>ys=(((us.take m).map code).map fun c=>S [c]).map V.str∧H' l2=some (.lst ys)∧Same Hx H')
      ⟨rfl,Qb,Qf h2 _⟩ ?_ ?_ ?_
    · rintro m ys H' _ ⟨_,_,g⟩
      exact SqL.of (g _ _ hu)
    · rintro m x ys H' hm hx ⟨rfl,hy,g⟩
      have hml:m < us.length:=by simpa using hm
      obtain rfl:x=.int ((us[m]:Nat):Int):=by
        rw [List.getElem?_map,List.getElem?_eq_getElem hml] at hx
        exact (Option.some.inj hx).symm
      have hlt:=hu26 _ (List.getElem_mem hml)
      refine Q7 ⟨_,rfl,_,rfl,Xf,_,_,rfl,rfl,(by rw [Lu,Vo];exact Zh (by decide)),OR hlt,?_⟩
      refine Qw hm hy (by simp only [List.length_map,List.length_take];omega) ⟨?_,Qb,fun z u e=>?_⟩
      · rw [List.take_add_one,List.getElem?_eq_getElem hml]
        simp only [Option.toList_some,List.map_append,List.map_cons,List.map_nil]
        rfl
      · rw [Qg (Qh e h2)];exact g _ _ e
    · rintro ys H' ⟨rfl,hy,g⟩
      rw [List.length_map,List.take_length] at hy
      exact hR H' g hy
  refine ⟨_,rfl,_,_,rfl,rfl,⟨by decide,by decide⟩,_,_,rfl,rfl,(by show (0:Int) < 4;decide),rfl,_,rfl,Y8 (fun _=>?_) (fun _=>?_)⟩
  · refine ⟨8,rfl,by decide,by decide,fun ln hln=>?_⟩
    refine ZJ (lo:=0) (n:=8) (cs:=[some (.ref lb),some (.str Xf)]) (tt:=fun _ H Q=>Q true H) (fun j ys H'=>ys=((List.range j).map fun k=>S ((bs.take (k + 1)).map code)).map V.str∧H' ln=some (.lst ys)∧Same H1 H')
      ⟨rfl,Qb,Qf hln _⟩ ?_ ?_
    · rintro j ys H' hj ⟨rfl,hy,g⟩
      refine Q7 ⟨rfl,_,rfl,_,rfl,_,_,rfl,rfl,_,rfl,lb,_,rfl,SqL.of (g _ _ hlb1),fun ps hps=>⟨ps,rfl,⟨_,SqL.of Qb⟩,fun l2 hl2=>?_⟩⟩
      have ecut:cutV (NV bs) none (some (0 + (j:Int)+1))=NV (bs.take (j + 1)):=by
        rw [show (0:Int)+(j:Int)+1=((j + 1:Nat):Int) by omega,Mc];unfold NV;rw [List.map_take]
      have kp:=Qf hps (.lst (cutV (NV bs) none (some (0 + (j:Int)+1))))
      refine word (bs.take (j + 1)) l2 ps _ _ hl2 (by rw [← ecut];exact Qb) (by rw [List.length_take];omega) (fun b hb=>hb26 b (List.mem_of_mem_take hb)) fun H3 g3 h3=>?_
      have k3:=kp.trans g3
      refine ⟨S [],l2,_,by rw [← W9],rfl,SqL.of h3,UX (by rw [List.length_map,List.length_take];omega),?_⟩
      rw [XJ]
      refine Qw hj (k3 _ _ hy) (by simp only [List.length_map,List.length_range];omega) ⟨?_,Qb,fun z u e=>?_⟩
      · rw [List.range_succ,List.map_append,List.map_append];rfl
      · rw [Qg (Qh e hln)];exact k3 _ _ (g _ _ e)
    · rintro ys H' ⟨rfl,hy,g⟩
      refine q ln H' _ (g1.trans g) hy (by simp) (JB _ 8 fun i j hi hj e=>?_) (fun x hx=>?_) fun x hx=>?_
      · have:=congrArg List.length (NM e)
        simp only [List.length_map,List.length_take] at this
        omega
      · obtain ⟨k,_,rfl⟩:=List.mem_map.mp hx
        exact Vv fun b hb=>hb26 b (List.mem_of_mem_take hb)
      · obtain ⟨k,_,rfl⟩:=List.mem_map.mp hx
        exact ⟨_,rfl,by rw [List.length_take];omega,fun b hb=>hb26 b (List.mem_of_mem_take hb)⟩
  have w0:0≤c % 8:=Int.emod_nonneg _ (by decide)
  have w1:c % 8 < 8:=Int.emod_lt_of_pos _ (by decide)
  refine ⟨_,rfl,_,_,rfl,rfl,(by show (0:Int) < 8;decide),_,_,rfl,rfl,?_⟩
  dsimp only
  obtain ⟨wi,hwi⟩ : ∃ wi:Nat,1 + c % 8=(wi:Int):=⟨(1 + c % 8).toNat,by omega⟩
  rw [hwi]
  have hwi0:0 < wi:=by omega
  have hwi8:wi≤8:=by omega
  refine ⟨_,rfl,_,_,rfl,rfl,⟨by decide,by decide⟩,_,rfl,_,_,rfl,rfl,(by show (0:Int) < (wi:Int);omega),?_⟩
  dsimp only
  have s0:0≤c / 8 % (wi:Int):=Int.emod_nonneg _ (by omega)
  have s1:c / 8 % (wi:Int) < (wi:Int):=Int.emod_lt_of_pos _ (by omega)
  obtain ⟨sp,hsp⟩ : ∃ sp:Nat,c / 8 % (wi:Int)=(sp:Int):=⟨(c / 8 % (wi:Int)).toNat,by omega⟩
  rw [hsp]
  have hspw:sp < wi:=by omega
  obtain ⟨bw,hbw⟩ : ∃ bw,bw=bs.take wi:=⟨_,rfl⟩
  have hbwl:bw.length=wi:=by rw [hbw,List.length_take];omega
  have hbw26:∀ b ∈ bw,b < 26:=fun b hb=>hb26 b (List.mem_of_mem_take (by rw [← hbw];exact hb))
  have hspl:sp < bw.length:=by omega
  refine ⟨(by show 0≤sizeLine;decide),fun ln hln=>?_⟩
  refine ⟨8,rfl,by decide,by decide,?_⟩
  refine Zs (lo:=0) (n:=8) (fun j σ H'=>∃ c6 c7:Option V,σ=[some (.int c),some (.str Xf),some (.ref lb),some (.int (wi:Int)),some (.int (sp:Int)),some (.ref ln),c6,c7]∧Same H1 H'∧H' ln=some (.lst (((List.range j).map fun k=>S ((bw.set sp ((bw[sp]+k) % 26)).map code)).map V.str)))
    ⟨none,none,rfl,Qf hln _,Qb⟩ ?_ ?_
  · rintro j σ H' hj ⟨c6,c7,rfl,g,hy⟩
    refine ⟨_,rfl,_,rfl,_,rfl,lb,_,rfl,SqL.of (g _ _ hlb1),fun lm hlm=>?_⟩
    have ecut:cutV (NV bs) none (some (wi:Int))=NV bw:=by rw [Mc,hbw];unfold NV;rw [List.map_take]
    have km:=Qf hlm (.lst (cutV (NV bs) none (some (wi:Int))))
    have hlm2:upd H' lm (.lst (cutV (NV bs) none (some (wi:Int)))) lm=some (.lst (NV bw)):=by rw [← ecut];exact Qb
    have hlnm:ln≠lm:=fun z=>by rw [← z,hy] at hlm;cases hlm
    generalize upd H' lm (.lst (cutV (NV bs) none (some (wi:Int))))=H2 at km hlm2
    have hat:atI (NV bw) (sp:Int)=some (.int ((bw[sp]:Nat):Int)):=Qv (by rw [List.getElem?_map,List.getElem?_eq_getElem hspl];rfl)
    refine ⟨_,rfl,_,rfl,lm,_,_,_,rfl,rfl,SqL.of hlm2,hat,_,rfl,_,_,rfl,rfl,_,_,rfl,rfl,(by show (0:Int) < 26;decide),_,rfl,_,rfl,lm,NV bw,(sp:Int),sp,rfl,rfl,hlm2,J9 (by rw [List.length_map];exact hspl),?_⟩
    have hset:(NV bw).set sp (.int ((((bw[sp]:Nat):Int)+(0 + (j:Int))) % 26))=NV (bw.set sp ((bw[sp]+j) % 26)):=by
      unfold NV
      rw [List.map_set]
      congr 2
      omega
    rw [hset]
    have hln3:upd H2 lm (.lst (NV (bw.set sp ((bw[sp]+j) % 26)))) ln=some (.lst (((List.range j).map fun k=>S ((bw.set sp ((bw[sp]+k) % 26)).map code)).map V.str)):=by rw [Qg hlnm];exact km _ _ hy
    refine ⟨_,rfl,.inl ⟨rfl,_,SqL.of hln3⟩,rfl,_,rfl,lm,rfl,⟨_,SqL.of Qb⟩,fun l2 hl2=>?_⟩
    have hml:∀ b ∈ bw.set sp ((bw[sp]+j) % 26),b < 26:=fun b hb=>by
      rcases List.mem_or_eq_of_mem_set hb with hb | hb
      · exact hbw26 b hb
      · rw [hb];exact Nat.mod_lt _ (by decide)
    refine word _ l2 lm _ _ hl2 Qb (by rw [List.length_set];omega) hml fun H4 g4 h4=>?_
    refine ⟨S [],l2,_,by rw [← W9],rfl,SqL.of h4,UX (by rw [List.length_map,List.length_set];omega),?_⟩
    rw [XJ]
    refine ⟨ln,_,_,rfl,rfl,g4 _ _ hln3,by simp only [List.length_map,List.length_range,QH];omega,_,_,rfl,fun z u e=>?_,?_⟩
    · rw [Qg (Qh e hln)]
      refine g4 _ _ ?_
      have hz:z≠lm:=fun y=>by rw [y] at e;rw [g _ _ e] at hlm;cases hlm
      rw [Qg hz]
      exact km _ _ (g _ _ e)
    · rw [Qb,List.range_succ,List.map_append,List.map_append];rfl
  · rintro σ H' ⟨c6,c7,rfl,g,hy⟩
    refine ⟨_,rfl,q ln H' _ (g1.trans g) hy (by simp) (JB _ 8 fun i j hi hj e=>?_) (fun x hx=>?_) fun x hx=>?_⟩
    · have e2:=congrArg (fun l=>l[sp]?) (NM e)
      simp only [List.getElem?_map,List.getElem?_set_self hspl,Option.map_some] at e2
      have e3:=GS (Nat.mod_lt _ (by decide)) (Nat.mod_lt _ (by decide)) (Option.some.inj e2)
      omega
    · obtain ⟨k,_,rfl⟩:=List.mem_map.mp hx
      refine Vv fun b hb=>?_
      rcases List.mem_or_eq_of_mem_set hb with hb | hb
      · exact hbw26 b hb
      · rw [hb];exact Nat.mod_lt _ (by decide)
    · obtain ⟨k,_,rfl⟩:=List.mem_map.mp hx
      refine ⟨_,rfl,by rw [List.length_set];omega,fun b hb=>?_⟩
      rcases List.mem_or_eq_of_mem_set hb with hb | hb
      · exact hbw26 b hb
      · rw [hb];exact Nat.mod_lt _ (by decide)
end
end K22
namespace K22
open PySem L2 TM TT K9 K11
abbrev PI' (p:List Int):List V:=p.map V.int
abbrev Rf (ts:List (Addr × List Int)):List V:=ts.map fun t=>V.ref t.1
def TsAt (K:PySem.W.Frag) (H:Hp) (ts:List (Addr × List Int)):Prop:=∀ t ∈ ts,SqT K H t.1 (PI' t.2)
theorem TsAt.mono {K:PySem.W.Frag} {H H':Hp} {ts:List (Addr × List Int)} (h:TsAt K H ts) (k:∀ a xs,SqT K H a xs→SqT K H' a xs):TsAt K H' ts:=fun t ht=>k _ _ (h t ht)
theorem TsAt.app {K:PySem.W.Frag} {H:Hp} {ts us:List (Addr × List Int)} (h:TsAt K H ts) (k:TsAt K H us):TsAt K H (ts ++ us):=fun t ht=>by
  rcases List.mem_append.mp ht with z | z
  · exact h t z
  · exact k t z
def datP (ps:List (List Int)):PyData:=.list (ps.map fun p=>.tuple (p.map .int))
theorem O2 {K:PySem.W.Frag} {H:Hp}:∀ {ts:List (Addr × List Int)},TsAt K H ts→RdAll K H (Rf ts) ((ts.map (·.2)).map fun p=>.tuple (p.map .int))
  | [],_=>.nil
  | t :: r,h=>.cons (.tup (h t List.mem_cons_self) (Xk _)) (O2 fun u hu=>h u (List.mem_cons_of_mem _ hu))
theorem NU:∀ ps:List (List Int),(datP ps).canLay0=true
  | []=>by simp [datP,PyData.canLay0,PyData.canLayAll0]
  | p :: r=>by
    have:=NU r
    simp only [datP,PyData.canLay0] at this
    simp only [datP,PyData.canLay0,List.map_cons,PyData.canLayAll0,UT,this,Bool.and_self]
theorem Ly {mk ks:List Str} {i j:Nat} {x y:Str} (h:mk[i]?=some x) (k:ks[j]?=some y):YX mk ks ((i:Int),(j:Int))=decide (x=y):=by
  have hi:=(List.getElem?_eq_some_iff.mp h).1
  have hj:=(List.getElem?_eq_some_iff.mp k).1
  unfold YX
  have e1:(0:Int)≤(i:Int):=by omega
  have e2:(i:Int) < (mk.length:Int):=by omega
  have e3:(0:Int)≤(j:Int):=by omega
  have e4:(j:Int) < (ks.length:Int):=by omega
  simp only [e1,e2,e3,e4,decide_true,Bool.true_and,Int.toNat_natCast,h,k]
  by_cases e:x=y <;> simp [e]
theorem GL {d:Nat}:∀ {ts:List Tm},(∀ t ∈ ts,TM.lv t≤d)→lvs ts≤d
  | [],_=>by simp [lvs]
  | t :: r,h=>by
    have h1:=h t List.mem_cons_self
    have h2:=GL fun u hu=>h u (List.mem_cons_of_mem _ hu)
    simp only [lvs];omega
theorem X4 {c:Int × Int}:∀ {ts:List Tm},c ∈ Zj ts→∃ t ∈ ts,c ∈ cls t
  | [],h=>by simp [Zj] at h
  | t :: r,h=>by
    simp only [Zj] at h
    rcases List.mem_append.mp h with h | h
    · exact ⟨t,List.mem_cons_self,h⟩
    · obtain ⟨u,hu,hc⟩:=X4 h
      exact ⟨u,List.mem_cons_of_mem _ hu,hc⟩
theorem Mn {s:Nat}:∀ {ts:List Tm},(∀ t ∈ ts,TM.sz t≤s)→szs ts≤ts.length * s
  | [],_=>by simp [szs]
  | t :: r,h=>by
    have h1:=h t List.mem_cons_self
    have h2:=Mn fun u hu=>h u (List.mem_cons_of_mem _ hu)
    simp only [szs,List.length_cons,Nat.add_mul,Nat.one_mul];omega
theorem LG (ps:List (List Int)):PyData.eqv (datP ps) (.list [])=ps.isEmpty:=by
  cases ps <;> simp [datP,PyData.eqv,PyData.eqvAll]
theorem PQ {X:Cx} {r1 r2:R2} (h1:IxR X r1) (h2:IxR X r2):IxR X (fun x y H Q=>r1 x y H Q∨r2 x y H Q):=by
  intro value slice pins s σ H x y v u Q I rx ry h hs
  rcases h with h | h
  · exact h1 value slice pins s σ H x y v u Q I rx ry h hs
  · exact h2 value slice pins s σ H x y v u Q I rx ry h hs
abbrev ML (K:PySem.W.Frag):R2:=fun x y H Q=>Jn K x y H Q∨Gr K x y H Q
structure TF (own kinds:List Str) (d:Nat) (t:Tm):Prop where
  lv:TM.lv t≤d
  sz:TM.sz t≤3 ^ d
  mok:MOk (2 * d) t
  fit:ZV own kinds t=true
theorem M8 {own kinds:List Str} {m b:Int} {d:Nat} (h:YX own kinds (m,b)=true):TF own kinds (d + 1) (Ze m b):=by
  refine ⟨by simp [Ze,TM.lv,lvs],?_,(MC m b 0 []).mono (by omega),?_⟩
  · simp only [Ze,TM.sz,szs]
    have:=Nat.pow_pos (n:=d + 1) (show 0 < 3 by decide)
    omega
  · unfold ZV;simp [Ze,cls,lcl,Zj,h]
theorem OE {own kinds:List Str} {d:Nat} {nm:Str} {k:Bool} {ad:Int} {ts:List Tm} (hn:PyData.strOk nm=true) (hl:ts.length≤2) (h:∀ t ∈ ts,TF own kinds d t):TF own kinds (d + 1) (.node (.put nm k ad) 0 ts):=by
  refine ⟨?_,?_,(NZ hn fun t ht=>(h t ht).mok).mono (by omega),?_⟩
  · simp only [TM.lv]
    have:=GL fun t ht=>(h t ht).lv
    omega
  · simp only [TM.sz]
    have h1:=Mn fun t ht=>(h t ht).sz
    have h2:ts.length * 3 ^ d≤2 * 3 ^ d:=Nat.mul_le_mul_right _ hl
    have h3:0 < 3 ^ d:=Nat.pow_pos (by decide)
    rw [Nat.pow_succ]
    omega
  · unfold ZV
    rw [List.all_eq_true]
    intro c hc
    simp only [cls,lcl,List.nil_append] at hc
    obtain ⟨t,ht,hc⟩:=X4 hc
    have:=(h t ht).fit
    unfold ZV at this
    exact List.all_eq_true.mp this c hc
def J3 (K:PySem.W.Frag):Sp:=fun vs H Q _=>∃ (pb lo:Addr) (kinds own:List Str),vs=[.ref pb,.ref lo]∧(SqT K H pb (kinds.map V.str)∨SqL K H pb (kinds.map V.str))∧SqL K H lo (own.map V.str)∧kinds.length≤4∧own.length≤4 ∧
  ∀ (l:Addr) (H':Hp) (ts:List (Addr × List Int)),Same H H'→H' l=some (.lst (Rf ts))→TsAt K H' ts→(∀ t ∈ ts,∃ m b,t.2=[m,b]∧YX own kinds (m,b)=true)→ts.length≤16→Q (.ref l) H'
def Yv (K:PySem.W.Frag) (n:Nat):Sp:=fun vs H Q _=>∃ (c k:Int) (d:Nat) (lc ln:Addr) (keep:Bool) (ts:List (Addr × List Int)) (ns own kinds:List Str),d + 1=n∧d≤2∧vs=[.int c,.int k,.int (d:Int),.ref lc,.ref ln,.bl keep]∧0≤k∧k * 10 ^ d≤10000∧SqL K H lc (Rf ts)∧TsAt K H ts∧(∀ t ∈ ts,∃ m b,t.2=[m,b]∧YX own kinds (m,b)=true)∧ts.length≤16∧SqL K H ln (ns.map V.str)∧ns.length=8∧(∀ x ∈ ns,PyData.strOk x=true) ∧
  ∀ (v:V) (H':Hp) (t:Tm),Same H H'→TmV K H' v t→TF own kinds n t→Q v H'
section
variable {P:Program} {w:World} {K:PySem.W.Frag} {mg:Str→Option Value} {base:Heap} {f:Addr} {fd:FuncData}
theorem Xb:FnScope ["_law_branches", "_law_owners", "_law_calls_here", "_law_branch"] ["_law_branches", "_law_owners"] (defScope WB):=⟨rfl,rfl,rfl,by decide +kernel,rfl,by decide +kernel,by decide +kernel⟩
theorem LO (F:Fun K "_law_calls" "_law_calls" WB f fd) (G:Gm mg):FnOk P w K mg base CX0 1 f fd ["_law_branches", "_law_owners"] (J3 K):=by
  refine F.ok Xb (fun vs H Q E h=>?_) (fun cdv A outer s H vs Q E hr h=>?_)
  · obtain ⟨pb,lo,kinds,own,rfl,_⟩:=h
    rfl
  obtain ⟨pb,lo,kinds,own,rfl,hpb,hlo,hk4,ho4,q⟩:=h
  refine ⟨_,(Qe (Qn (i:=2) Xb.nd rfl (Or.inl rfl) (QE Qc))
    (Qe (QU PassesOwn.never rfl (QO rfl G.rng (Qa (Qq Qo rfl G.len PySem.boot_len (Qa (pv 0) Qc)) Qc)) (Qu (i:=3) Xb.nd rfl (Or.inr rfl)) (Qi
      (Q2 (ZB PySem.F.plainAttrs_list PySem.F.slot_list_extend PySem.F.type_list_extend JA (pv 2) (Qa (QI (CompG.many (xs:=["_law_mode"]) (caps:=["_law_branch", "_law_branches", "_law_owners"]) (cap:=[3,0,1]) (cs:=[_,_,_]) rfl rfl (by decide +kernel) (by decide +kernel) (by decide +kernel) (by decide +kernel) (by decide +kernel) (by decide +kernel) rfl rfl rfl) rfl (QO rfl G.rng (Qa (Qq Qo rfl G.len PySem.boot_len (Qa (pv 1) Qc)) Qc)) (Zk (CompG.many (xs:=["_law_mode"]) (caps:=["_law_branch", "_law_branches", "_law_owners"]) (cap:=[3,0,1]) (cs:=[_,_,_]) rfl rfl (by decide +kernel) (by decide +kernel) (by decide +kernel) (by decide +kernel) (by decide +kernel) (by decide +kernel) rfl rfl rfl)) (fun _ _ _ _=>WG (Qy (r:=rEq) ZK (Qj (r:=Jn K) Qk (pv 3) (pv 0) (fun _ _=>rfl)) (Qj (r:=ML K) (PQ Qk Ql) (pv 2) (pv 1) (fun _ _=>rfl)) (QA _))) (fun _ _ _ _=>(QJ (Qa (pv 0) (Qa (pv 1) Qc))))) Qc)))))
    (Qi (Qp (pv 2))))),?_⟩
  refine ⟨(by show 0≤sizeLine;decide),fun l hl=>?_⟩
  have g0:=Qf hl (.lst [])
  have ekl:(kinds.map V.str).length=kinds.length:=List.length_map ..
  have eol:(own.map V.str).length=own.length:=List.length_map ..
  have hpb':∀ H',Same H H'→(SqL K H' pb (kinds.map V.str)∨SqT K H' pb (kinds.map V.str)):=fun H' g=>hpb.elim (fun h=>.inr (g.seqT h)) fun h=>.inl (g.seq h)
  refine ⟨_,rfl,pb,_,rfl,hpb' _ g0,_,rfl,by rw [ekl];omega,by rw [ekl];omega,?_⟩
  have en:(((kinds.map V.str).length:Nat):Int).toNat=kinds.length:=by rw [ekl];omega
  have en2:(((own.map V.str).length:Nat):Int).toNat=own.length:=by rw [eol];omega
  rw [en]
  refine Zs (lo:=0) (n:=kinds.length) (fun i σ H'=>∃ (c3:Option V) (ts:List (Addr × List Int)),σ=[some (.ref pb),some (.ref lo),some (.ref l),c3]∧Same H H'∧H' l=some (.lst (Rf ts))∧TsAt K H' ts∧(∀ t ∈ ts,∃ m b,t.2=[m,b]∧YX own kinds (m,b)=true)∧ts.length≤4 * i)
    ⟨none,[],rfl,g0,Qb,fun t ht=>(nomatch ht),fun t ht=>(nomatch ht),Nat.zero_le _⟩ ?_ ?_
  · rintro i σ H1 hi ⟨c3,ts,rfl,g1,hl1,hts,hfit,htl⟩
    refine ⟨_,rfl,.inl ⟨rfl,_,SqL.of hl1⟩,_,rfl,lo,_,rfl,.inl (g1.seq hlo),_,rfl,by rw [eol];omega,by rw [eol];omega,fun acc hacc=>?_⟩
    rw [en2]
    have hla:l≠acc:=fun z=>by rw [← z,hl1] at hacc;cases hacc
    refine ZJ (lo:=0) (n:=own.length) (cs:=[some (.int (0 + (i:Int))),some (.ref pb),some (.ref lo)]) (te:=Mm (Q3 (Zf 0) (Q3 (Zf 1) UA))) (fun j ys H'=>∃ us:List (Addr × List Int),ys=Rf us∧H' acc=some (.lst ys)∧Same H1 H'∧TsAt K H' us∧(∀ t ∈ us,∃ m b,t.2=[m,b]∧YX own kinds (m,b)=true)∧us.length≤j)
      ⟨[],rfl,Qb,Qf hacc _,fun t ht=>(nomatch ht),fun t ht=>(nomatch ht),Nat.le_refl _⟩ ?_ ?_
    · rintro j ys H2 hj ⟨us,rfl,hy,g2,hus,huf,hul⟩
      have ej:(0:Int)+(j:Int)=(j:Int):=by omega
      have ei:(0:Int)+(i:Int)=(i:Int):=by omega
      rw [ej,ei]
      have hat1:atI (own.map V.str) (j:Int)=some (.str own[j]):=Qv (by rw [List.getElem?_map,List.getElem?_eq_getElem hj];rfl)
      have hat2:atI (kinds.map V.str) (i:Int)=some (.str kinds[i]):=Qv (by rw [List.getElem?_map,List.getElem?_eq_getElem hi];rfl)
      have hix:ML K (.ref pb) (.int (i:Int)) H2=ML K (.ref pb) (.int (i:Int)) H2:=rfl
      have gg:=g1.trans g2
      refine ⟨_,rfl,_,rfl,lo,_,_,_,rfl,rfl,gg.seq hlo,hat1,_,rfl,_,rfl,?_⟩
      have key:∀ R:VK,R (.str kinds[i]) H2→ML K (.ref pb) (.int (i:Int)) H2 R:=fun R hR=>by
        rcases hpb' _ gg with h | h
        · exact .inl ⟨pb,_,_,_,rfl,rfl,h,hat2,hR⟩
        · exact .inr ⟨pb,_,_,_,rfl,rfl,h,hat2,hR⟩
      refine key _ ⟨rfl,_,rfl,?_⟩
      by_cases he:own[j]=kinds[i]
      · refine Xm (by rw [he]) ⟨_,rfl,_,rfl,(by show 2≤sizeLine;decide),fun p hp=>?_⟩
        have kp:=Qf hp (.tup [.int (j:Int),.int (i:Int)])
        refine Qw hj (kp _ _ hy) (by rw [List.length_map];omega) ⟨us ++ [(p,[(j:Int),(i:Int)])],by unfold Rf;rw [List.map_append];rfl,Qb,fun z u e=>?_,?_,fun t ht=>?_,by rw [List.length_append,List.length_singleton];omega⟩
        · rw [Qg (Qh e hacc)];exact kp _ _ (g2 _ _ e)
        · refine TsAt.app (hus.mono fun _ _ h=>(kp.seqT h).put (kp _ _ hy)) fun t ht=>?_
          have:t=(p,[(j:Int),(i:Int)]):=by simpa using ht
          rw [this]
          exact SqT.put (SqT.of Qb) (kp _ _ hy)
        · rcases List.mem_append.mp ht with ht | ht
          · exact huf t ht
          · have:t=(p,[(j:Int),(i:Int)]):=by simpa using ht
            rw [this]
            exact ⟨_,_,rfl,by rw [Ly (List.getElem?_eq_getElem hj) (List.getElem?_eq_getElem hi)];exact decide_eq_true he⟩
      · exact Wa (fun z=>he (by injection z)) (Yj hj ⟨us,rfl,hy,g2,hus,huf,by omega⟩)
    · rintro ys H2 ⟨us,rfl,hy,g2,hus,huf,hul⟩
      have hl2:=g2 _ _ hl1
      refine ⟨l,acc,_,_,rfl,rfl,hl2,hy,by rw [List.length_map,List.length_map,QH];omega,?_⟩
      refine ⟨_,ts ++ us,rfl,fun z u e=>?_,by rw [Qb,Rf,Rf,Rf,List.map_append],?_,fun t ht=>?_,by rw [List.length_append];omega⟩
      · rw [Qg (Qh e hl)];exact g2 _ _ (g1 _ _ e)
      · exact (hts.mono fun _ _ h=>(g2.seqT h).put hl2).app (hus.mono fun _ _ h=>h.put hl2)
      · rcases List.mem_append.mp ht with ht | ht
        · exact hfit t ht
        · exact huf t ht
  · rintro σ H1 ⟨c3,ts,rfl,g1,hl1,hts,hfit,htl⟩
    exact ⟨_,rfl,q l H1 ts g1 hl1 hts hfit (by omega)⟩
end
end K22
namespace K22
open PySem L2 TM TT K9 K11
abbrev O6:List Str:=["_law_cell", "_law_k", "_law_deep", "_law_calls_here", "_law_names_here", "_law_keep", "_law_number", "_law_wide", "_law_parts", "_law_kept", "_law_add"]
abbrev U3:List Str:=["_law_cell", "_law_k", "_law_deep", "_law_calls_here", "_law_names_here", "_law_keep"]
section
variable {P:Program} {w:World} {K:PySem.W.Frag} {mg:Str→Option Value} {base:Heap} {f:Addr} {fd:FuncData}
theorem Yt:FnScope O6 U3 (defScope Jy):=⟨rfl,rfl,rfl,by decide +kernel,rfl,by decide +kernel,by decide +kernel⟩
theorem NC {n:Nat} (F:Fun K "_law_term" "_law_term" Jy f fd) (G:Gm mg) (RM:Fn P w K mg base 1 "_law_mixed" ["_law_cell", "_law_k"] Zi) (RG:Fn P w K mg base 1 "_law_great" ["_law_cell"] YO) (R:Fn P w K mg base (n + 1) "_law_term" U3 (Yv K n)):FnOk P w K mg base CX0 (n + 2) f fd U3 (Yv K (n + 1)):=by
  refine F.ok Yt (fun vs H Q E h=>?_) (fun cdv A outer s H vs Q E hr h=>?_)
  · obtain ⟨c,k,d,lc,ln,keep,ts,ns,own,kinds,_,_,rfl,_⟩:=h
    rfl
  obtain ⟨c,k,d,lc,ln,keep,ts,ns,own,kinds,hdn,hd2,rfl,hk0,hk1,hlc,hts,hfit,htl,hln,hn8,hnok,q⟩:=h
  have room:∀ m:Nat,m≤64→(A.deeper (PyProof.Rows.envOfC "_law_term" (defScope Jy) s.heap.objs.size f cdv)).units + m < cLine:=fun m hm=>by have:=hr.units;omega
  refine ⟨_,(Qe (Qn (i:=6) Yt.nd rfl (Or.inl rfl) (Qr RM hr (Qa (pv 0) (Qa (pv 1) Qc)) (Nat.le_add_left 1 n)))
    (Qe (QT (G3 (PW.pt (pw_and (Qy Ji (pv 3) (QE Qc) (QA _)) (pw_and1 (Qy GJ (Qm Qz (pv 6) Qd) Qd (QA _)))))) (Qi (Qp (Qm Ni (QJ (Qa (Q6) Qc)) (Qj Qk (pv 3) (Qm Qz (Qm QZ (pv 6) Qd) (Qq Qo rfl G.len PySem.boot_len (Qa (pv 3) Qc))) (fun _ _=>rfl))))) Qx)
    (Qe (Qn (i:=7) Yt.nd rfl (Or.inl rfl) Qd)
    (Qe (Z8 (QT (Qy Jp (pv 2) Qd (QA _)) (Qi (Qn (i:=7) Yt.nd rfl (Or.inl rfl) (Qm QG (Qm ZO (pv 2) Qd) (Qm Qz (Qm QZ (pv 6) Qd) (Qm ZO Qd (pv 2)))))) Qx))
    (Qe (ZC (i:=8) (CompG.many (xs:=["_law_j"]) (caps:=["_law_calls_here", "_law_cell", "_law_deep", "_law_k", "_law_keep", "_law_names_here"]) (cap:=[3,0,2,1,5,4]) (cs:=[_,_,_,_,_,_]) rfl rfl (by decide +kernel) (by decide +kernel) (by decide +kernel) (by decide +kernel) (by decide +kernel) (by decide +kernel) rfl rfl rfl) rfl (QO rfl G.rng (Qa (pv 7) Qc)) (Zk (CompG.many (xs:=["_law_j"]) (caps:=["_law_calls_here", "_law_cell", "_law_deep", "_law_k", "_law_keep", "_law_names_here"]) (cap:=[3,0,2,1,5,4]) (cs:=[_,_,_,_,_,_]) rfl rfl (by decide +kernel) (by decide +kernel) (by decide +kernel) (by decide +kernel) (by decide +kernel) (by decide +kernel) rfl rfl rfl)) (fun _ _ _ _=>QX)
      (fun _ _ _ _=>Qr R hr (Qa (pv 2) (Qa (Qm QG (Qm QG (Qm ZN Qd (pv 4)) (pv 0)) Qd) (Qa (Qm ZO (pv 3) Qd) (Qa (pv 1) (Qa (pv 6) (Qa (pv 5) Qc)))))) (Nat.le_refl _)) Yt.nd rfl rfl)
    (Qe (Z8 (Qn (i:=9) Yt.nd rfl (Or.inl rfl) (Je (pv 5) (UD (Yo ZK (Qm Qz (Qm QZ (pv 6) Qd) Qd) Qd (QA _))))))
    (Qe (Z8 (Qn (i:=10) Yt.nd rfl (Or.inl rfl) (Qj Qk (QE (Qa (Qd) (Qa (Qm ZO (Qm Qz (Qm QZ (pv 6) Qd) Qd) Qd) (Qa (Qr RG hr (Qa (pv 0) Qc) (Nat.le_add_left 1 n)) Qc)))) (Qm Qz (Qm QZ (pv 6) Qd) Qd) (fun _ _=>rfl))))
    (Qi (Qp (QJ (Qa (Q6) (Qa (Qj Qk (pv 4) (Qm Qz (Qm QZ (pv 6) Qd) Qd) (fun _ _=>rfl)) (Qa (pv 9) (Qa (pv 10) (Qa (QB Q8 rfl G.tup PyProof.Rows.boot_tuple (Qa (pv 8) Qc)) Qc))))))))))))))),?_⟩
  have hk2:k≤10000:=by
    have:(1:Int)≤10 ^ d:=by
      rcases (show d=0∨d=1∨d=2 by omega) with rfl | rfl | rfl <;> decide
    have:=Int.mul_le_mul_of_nonneg_left this hk0
    omega
  refine ⟨_,rfl,_,rfl,c,k,rfl,hk0,by omega,fun x x0 x1=>?_⟩
  refine ⟨fun b H'=>Same H H'∧(b=true→ts≠[]),?_,?_⟩
  · refine ⟨_,rfl,(by show 0≤sizeLine;decide),fun pe hpe=>?_⟩
    have ge:=Qf hpe (.lst [])
    refine ⟨_,.list [],.lst (ge.seq hlc) (O2 (hts.mono fun _ _=>ge.seqT)),.lst (SqL.of Qb) .nil,NU _,by simp [PyData.canLay0,PyData.canLayAll0],room _ (Nat.le_trans (Nat.min_le_right _ _) (by simp [PyData.depth,PyData.depthAll])),_,rfl,?_⟩
    have e:=LG (ts.map (·.2))
    unfold datP at e
    rw [if_pos rfl,e]
    cases hte:ts with
    | nil=>exact Zu ⟨ge,fun z=>nomatch z⟩
    | cons t0 tr=>exact Q7 ⟨_,rfl,_,_,rfl,rfl,(by show (0:Int) < 5;decide),_,_,rfl,rfl,_,rfl,ge,fun _ z=>nomatch z⟩
  rintro b H1 ⟨g1,hb⟩
  cases b with
  | true =>
    have hne:=hb rfl
    have htp:0 < ts.length:=List.length_pos_iff.mpr hne
    have erf:(Rf ts).length=ts.length:=List.length_map ..
    refine Q7 ⟨(by show 1≤sizeLine;decide),fun pc hpc=>?_⟩
    have k1:=Qf hpc (.tup [.str CALL])
    have g2:=g1.trans k1
    obtain ⟨y,hy,hat⟩:=ZA (xs:=Rf ts) (k:=((Rf ts).length:Int)) rfl (by rw [erf];exact htp) (x / 5)
    obtain ⟨t,ht,rfl⟩:=List.mem_map.mp hy
    obtain ⟨m,bb,et,hf⟩:=hfit t ht
    refine ⟨_,rfl,_,rfl,_,_,rfl,rfl,⟨by decide,by decide⟩,_,rfl,lc,_,rfl,.inl (g2.seq hlc),_,_,rfl,rfl,(by rw [erf];omega),lc,_,_,_,rfl,rfl,g2.seq hlc,hat,?_⟩
    have htt:=g2.seqT (hts t ht)
    rw [et] at htt
    refine ⟨pc,t.1,_,_,rfl,rfl,SqT.of Qb,htt,(by show 1 + 2≤sizeLine;decide),fun p H3 g3 hp3=>?_⟩
    exact q (.ref p) H3 (Ze m bb) (g2.trans g3) (.call hp3) (M8 hf)
  | false =>
  refine Zu ?_
  refine ⟨fun σ' H'=>H'=H1∧∃ wi:Nat,wi≤2∧(0 < wi→0 < d)∧σ'=[some (.int c),some (.int k),some (.int (d:Int)),some (.ref lc),some (.ref ln),some (.bl keep),some (.int x),some (.int (wi:Int)),none,none,none],?_,?_⟩
  · refine ⟨_,rfl,_,_,rfl,rfl,_,rfl,Y8 (fun cc=>?_) (fun cc=>⟨rfl,0,by omega,fun z=>by omega,rfl⟩)⟩
    have hd0:(d:Int) > 0:=of_decide_eq_true cc
    have p4:(0:Int) < 4 - (d:Int):=by omega
    refine ⟨_,rfl,_,_,rfl,rfl,_,rfl,_,_,rfl,rfl,⟨by decide,by decide⟩,_,rfl,_,_,rfl,rfl,_,_,rfl,rfl,p4,_,_,rfl,rfl,rfl,?_⟩
    have a0:0≤x / 8 % (4 - (d:Int)):=Int.emod_nonneg _ (by omega)
    have a1:x / 8 % (4 - (d:Int)) < 4 - (d:Int):=Int.emod_lt_of_pos _ p4
    generalize hz:x / 8 % (4 - (d:Int))=z at a0 a1
    refine ⟨((d:Int) - 1 + z).toNat,by omega,fun _=>by omega,?_⟩
    dsimp only
    rw [Int.toNat_of_nonneg (by omega)]
    rfl
  rintro σ H2 ⟨rfl,wi,hw2,hwd,rfl⟩
  refine ⟨_,rfl,_,rfl,by omega,by omega,fun acc hacc=>?_⟩
  rw [Int.toNat_natCast]
  refine ZJ (lo:=0) (n:=wi) (cs:=[some (.ref lc),some (.int c),some (.int (d:Int)),some (.int k),some (.bl keep),some (.ref ln)]) (tt:=fun _ H Q=>Q true H) (fun j ys H'=>∃ us:List Tm,H' acc=some (.lst ys)∧Same H2 H'∧TmAll K H' ys us∧us.length=j∧∀ t ∈ us,TF own kinds n t)
    ⟨[],Qb,Qf hacc _,.nil,rfl,fun t ht=>(nomatch ht)⟩ ?_ ?_
  · rintro j ys H3 hj ⟨us,hy,g3,hus,hul,huf⟩
    obtain ⟨e,rfl⟩ : ∃ e,d=e + 1:=⟨d - 1,by omega⟩
    have gg:=g1.trans g3
    have hyl:=hus.length
    have ek:((3 * k + (0 + (j:Int))+1):Int) * 10 ^ e≤10000:=by
      rcases (show e=0∨e=1 by omega) with rfl | rfl
      · simp only [Int.pow_zero,Int.mul_one] at hk1 ⊢
        simp only [Nat.zero_add] at hk1
        omega
      · simp only [Nat.reduceAdd] at hk1
        omega
    refine Q7 ⟨_,rfl,_,rfl,_,_,rfl,rfl,.inl ⟨by decide,by decide⟩,_,rfl,_,_,rfl,rfl,_,_,rfl,rfl,_,rfl,_,_,rfl,rfl,_,rfl,_,rfl,_,rfl,c,_,e,lc,ln,keep,ts,ns,own,kinds,by omega,by omega,?_,?_,ek,gg.seq hlc,hts.mono fun _ _=>gg.seqT,hfit,htl,gg.seq hln,hn8,hnok,fun v H4 t g4 hv ht=>?_⟩
    · show [V.int c,V.int (3 * k + (0 + (j:Int))+1),V.int (((e + 1:Nat):Int) - 1),V.ref lc,V.ref ln,V.bl keep]=_
      rw [show (((e + 1:Nat):Int) - 1)=(e:Int) by omega]
    · omega
    refine Qw hj (g4 _ _ hy) (by omega) ⟨us ++ [t],Qb,fun z u e=>?_,?_,by rw [List.length_append,List.length_singleton,hul],fun t' ht'=>?_⟩
    · rw [Qg (Qh e hacc)];exact g4 _ _ (g3 _ _ e)
    · exact TmAll.append (hus.mono fun _ _ h=>(g4.seqT h).put (g4 _ _ hy)) (.cons (hv.mono fun _ _ h=>h.put (g4 _ _ hy)) .nil)
    · rcases List.mem_append.mp ht' with ht' | ht'
      · exact huf t' ht'
      · have:t'=t:=by simpa using ht'
        rw [this];exact ht
  rintro ys H3 ⟨us,hy,g3,hus,hul,huf⟩
  have hyl:=hus.length
  have gg:=g1.trans g3
  refine ⟨fun σ' H'=>H'=H3∧∃ b:Bool,σ'=[some (.int c),some (.int k),some (.int (d:Int)),some (.ref lc),some (.ref ln),some (.bl keep),some (.int x),some (.int (wi:Int)),some (.ref acc),some (.bl b),none],?_,?_⟩
  · refine ⟨_,rfl,keep,rfl,?_⟩
    cases keep with
    | false=>exact Zu ⟨rfl,false,rfl⟩
    | true=>exact Q7 ⟨_,rfl,_,_,rfl,rfl,⟨by decide,by decide⟩,_,_,rfl,rfl,(by show (0:Int) < 2;decide),rfl,rfl,_,rfl⟩
  rintro σ H4 ⟨rfl,kb,rfl⟩
  refine ⟨fun σ' H'=>Same H4 H'∧∃ ad:Int,σ'=[some (.int c),some (.int k),some (.int (d:Int)),some (.ref lc),some (.ref ln),some (.bl keep),some (.int x),some (.int (wi:Int)),some (.ref acc),some (.bl kb),some (.int ad)],?_,?_⟩
  · refine ⟨_,rfl,_,_,rfl,rfl,⟨by decide,by decide⟩,_,_,rfl,rfl,(by show (0:Int) < 19;decide),_,_,rfl,rfl,_,rfl,c,rfl,fun gx=>⟨(by show 3≤sizeLine;decide),fun l hl=>?_⟩⟩
    refine ⟨_,rfl,_,_,rfl,rfl,⟨by decide,by decide⟩,_,_,rfl,rfl,(by show (0:Int) < 3;decide),?_⟩
    obtain ⟨y,hy,hat⟩:=ZA (xs:=[.int 0,.int (x / 512 % 19 - 9),.int gx]) (k:=3) rfl (by show 0 < 3;decide) (x / 64)
    refine ⟨l,_,_,y,rfl,rfl,SqL.of Qb,hat,Qf hl _,?_⟩
    simp only [List.mem_cons,List.mem_nil_iff,or_false] at hy
    rcases hy with rfl | rfl | rfl
    · exact ⟨_,rfl⟩
    · exact ⟨_,rfl⟩
    · exact ⟨_,rfl⟩
  rintro σ H5 ⟨g5,ad,rfl⟩
  have g15:=gg.trans g5
  obtain ⟨y,hyn,hat⟩:=ZA (xs:=ns.map V.str) (k:=8) (by rw [List.length_map,hn8];rfl) (by rw [List.length_map];omega) (x / 16384)
  obtain ⟨nm,hnm,rfl⟩:=List.mem_map.mp hyn
  refine ⟨_,rfl,_,rfl,_,_,rfl,rfl,⟨by decide,by decide⟩,_,_,rfl,rfl,(by show (0:Int) < 8;decide),ln,_,_,_,rfl,rfl,g15.seq hln,hat,_,rfl,_,rfl,_,rfl,acc,ys,rfl,.inl ⟨SqL.of (g5 _ _ hy),fun pt hpt=>⟨(by show 5≤sizeLine;decide),fun pr hpr=>?_⟩⟩⟩
  have k1:=Qf hpt (.tup ys)
  have k2:=Qf hpr (.tup [.str PUT,.str nm,.bl kb,.int ad,.ref pt])
  have k12:=k1.trans k2
  refine q (.ref pr) _ (.node (.put nm kb ad) 0 us) (g15.trans k12) (.put (SqT.of Qb) (k2.seqT (SqT.of Qb)) (hus.mono fun _ _=>(g5.trans k12).seqT) (by omega)) (OE (hnok nm hnm) (by omega) huf)
theorem VN {k:Nat}:FnOk P w K mg base CX0 k f fd U3 (Yv K 0):=by
  have no:∀ vs H Q E,¬ Yv K 0 vs H Q E:=fun vs H Q E h=>by
    obtain ⟨c,k,d,lc,ln,keep,ts,ns,own,kinds,h0,_⟩:=h
    omega
  exact ⟨fun vs H Q E h=>absurd h (no vs H Q E),fun A outer s H args us vs Q E _ _ _ _ h=>absurd h (no vs H Q E)⟩
theorem XH (F:Fun K "_law_term" "_law_term" Jy f fd) (G:Gm mg) (RM:Fn P w K mg base 1 "_law_mixed" ["_law_cell", "_law_k"] Zi) (RG:Fn P w K mg base 1 "_law_great" ["_law_cell"] YO) (hb:Binds K fd U3 []) (hm:mg "_law_term" = some (.ref f)):∀ n:Nat,FnOk P w K mg base CX0 (n + 1) f fd U3 (Yv K n)
  | 0=>VN
  | n + 1=>NC F G RM RG ⟨f,fd,XH F G RM RG hb hm n,hb,F.kp,hm⟩
end
end K22
namespace K22
open PySem L2 TM TT K9 K11
def Pf (t:TE):TE:=fun σ H Q=>∃ R:VK,t σ H R∧∀ v H',R v H'→Q v H'
theorem GU {X:Cx} {e:Expr} {t:TE} (h:PE X e t):PE X e (Pf t):=by
  intro pins s σ H Q I hw
  obtain ⟨R,h1,h2⟩:=hw
  exact thn (h pins s σ H R I h1) fun u s1 ⟨x,H1,I1,r1,q1⟩=>⟨x,H1,I1,r1,h2 x H1 q1⟩
def KdH (K:PySem.W.Frag) (H:Hp) (lw:Addr) (k:KdT):Prop:=SqT K H k.1 [.str k.2.1,.ref k.2.2.1]∧H k.2.2.1=some (.lst (k.2.2.2.map fun t=>V.ref t.1))∧k.2.2.1≠lw∧∀ t ∈ k.2.2.2,RowAt K H t
theorem KdH.same {K:PySem.W.Frag} {H H':Hp} {lw:Addr} {k:KdT} (g:Same H H') (h:KdH K H lw k):KdH K H' lw k:=⟨g.seqT h.1,g _ _ h.2.1,h.2.2.1,fun t ht=>(h.2.2.2 t ht).same g⟩
theorem KdH.put {K:PySem.W.Frag} {H:Hp} {lw:Addr} {k:KdT} {ys:List V} {o:HO} (hl:H lw=some (.lst ys)) (h:KdH K H lw k):KdH K (upd H lw o) lw k :=
  ⟨h.1.put hl,by rw [Qg h.2.2.1];exact h.2.1,h.2.2.1,fun t ht=>⟨(h.2.2.2 t ht).1.put hl,(h.2.2.2 t ht).2.put hl⟩⟩
abbrev NT (K:PySem.W.Frag):List V→Hp→VK→Prop:=fun xs H Q=>∃ p ys,xs=[.ref p]∧(SqL K H p ys∨SqT K H p ys)∧Q (.int ys.length) H
structure KF (kn:List Str) (rs:List PNx):Prop where
  ok:RowsOk rs
  bare:∃ r ∈ rs,r.2.2.2=[]
  cl:∀ r ∈ rs,∀ x ∈ r.2.2.2,x ∈ kn
  w3:∀ r ∈ rs,r.2.2.2.length≤3
structure WF (ks:List KdT):Prop where
  ok:WoodOk ks
  ne:0 < ks.length
  l3:ks.length≤3
  nm:∀ k ∈ ks,PyData.strOk k.2.1=true
  kf:∀ k ∈ ks,KF (ks.map fun k=>k.2.1) k.2.2.2
def WH (K:PySem.W.Frag):Sp:=fun vs H Q _=>∃ (c:Int) (ln:Addr) (ns:List Str),vs=[.int c,.ref ln]∧SqL K H ln (ns.map V.str)∧ns.length=8∧ns.Nodup∧(∀ x ∈ ns,PyData.strOk x=true) ∧
  ∀ (lw:Addr) (H':Hp) (ks:List KdT),Same H H'→WoodAt K H' lw ks→WF ks→(∀ k ∈ ks,k.2.1 ∈ ns)→Q (.ref lw) H'
abbrev Pl:List Str:=["_law_cell", "_law_names_here", "_law_kinds", "_law_wood_here", "_law_i", "_law_first", "_law_rows", "_law_r", "_law_number", "_law_wide", "_law_branches"]
section
variable {P:Program} {w:World} {K:PySem.W.Frag} {mg:Str→Option Value} {base:Heap} {f:Addr} {fd:FuncData}
theorem ZE:FnScope Pl ["_law_cell", "_law_names_here"] (defScope Va):=⟨rfl,rfl,rfl,by decide +kernel,rfl,by decide +kernel,by decide +kernel⟩
theorem Nb (F:Fun K "_law_wood" "_law_wood" Va f fd) (G:Gm mg) (RM:Fn P w K mg base 1 "_law_mixed" ["_law_cell", "_law_k"] Zi):FnOk P w K mg base CX0 2 f fd ["_law_cell", "_law_names_here"] (WH K):=by
  refine F.ok ZE (fun vs H Q E h=>?_) (fun cdv A outer s H vs Q E hr h=>?_)
  · obtain ⟨c,ln,ns,rfl,_⟩:=h
    rfl
  obtain ⟨c,ln,ns,rfl,hln,hn8,hnd,hnok,q⟩:=h
  have room:∀ m:Nat,m≤64→(A.deeper (PyProof.Rows.envOfC "_law_wood" (defScope Va) s.heap.objs.size f cdv)).units + m < cLine:=fun m hm=>by have:=hr.units;omega
  refine ⟨_,(Qe (Qn (i:=2) ZE.nd rfl (Or.inr rfl) (YB Uz (pv 1) JZ (YS (Qm QG Qd (Qm Qz (pv 0) Qd)))))
    (Qe (Qn (i:=3) ZE.nd rfl (Or.inl rfl) (QE Qc))
    (Qe (QU PassesOwn.never rfl (QO rfl G.rng (Qa (Qq Qo rfl G.len PySem.boot_len (Qa (pv 2) Qc)) Qc)) (Qu (i:=4) ZE.nd rfl (Or.inl rfl)) (Qe (Qn (i:=5) ZE.nd rfl (Or.inl rfl) (Qr RM hr (Qa (pv 0) (Qa (pv 4) Qc))))
    (Qe (Qn (i:=6) ZE.nd rfl (Or.inl rfl) (QE Qc))
    (Qe (QU PassesOwn.never rfl (QO rfl G.rng (Qa (GU (Qm ZO (Qm QG Qd (Qm Qz (pv 5) Qd)) (QB JV rfl G.int PyProof.Rows.boot_int (Qa (Je (Yo Jp (pv 4) Qd (QA _)) (UD (Yo ZK (Qm Qz (Qm QZ (pv 5) Qd) Qd) Qd (QA _)))) Qc)))) Qc)) (Qu (i:=7) ZE.nd rfl (Or.inl rfl)) (Qe (Qn (i:=8) ZE.nd rfl (Or.inr rfl) (Qr RM hr (Qa (pv 0) (Qa (Qm QG (Qm QG Qd (Qm ZN Qd (pv 4))) (pv 7)) Qc))))
    (Qe (Z8 (Qn (i:=9) ZE.nd rfl (Or.inl rfl) (Qj Qk (QE (Qa (Qd) (Qa (Qm QG Qd (Qm Qz (pv 8) Qd)) (Qa (Qm Qz (pv 8) Qd) Qc)))) (pv 7) (fun _ _=>rfl))))
    (Qe (ZC (i:=10) (CompG.many (xs:=["_law_j"]) (caps:=["_law_kinds", "_law_number"]) (cap:=[2,8]) (cs:=[_,_]) rfl rfl (by decide +kernel) (by decide +kernel) (by decide +kernel) (by decide +kernel) (by decide +kernel) (by decide +kernel) rfl rfl rfl) rfl (QO rfl G.rng (Qa (pv 9) Qc)) (Zk (CompG.many (xs:=["_law_j"]) (caps:=["_law_kinds", "_law_number"]) (cap:=[2,8]) (cs:=[_,_]) rfl rfl (by decide +kernel) (by decide +kernel) (by decide +kernel) (by decide +kernel) (by decide +kernel) (by decide +kernel) rfl rfl rfl)) (fun _ _ _ _=>QX) (fun _ _ _ _=>Qj (r:=Jn K) Qk (pv 1) (Qm (r:=rI (fun _ j=>0 < j) fun i j=>.int (i % j)) Qz (Qr RM hr (Qa (pv 2) (Qa (pv 0) Qc))) (Qq (r:=NT K) Qo rfl G.len PySem.boot_len (Qa (pv 1) Qc))) (fun _ _=>rfl)) ZE.nd rfl rfl)
    (Qi (Q2 (ZB PySem.F.plainAttrs_list PySem.F.slot_list_append PySem.F.type_list_append Q0 (pv 6) (Qa ((QJ (Qa (Qj Qk (pv 1) (Qm Qz (Qm QG (Qm QZ (pv 5) Qd) (pv 7)) Qd) (fun _ _=>rfl)) (Qa (QB Q8 rfl G.tup PyProof.Rows.boot_tuple (Qa (pv 10) Qc)) Qc)))) Qc))))))))
    (Qi (Q2 (ZB PySem.F.plainAttrs_list PySem.F.slot_list_append PySem.F.type_list_append Q0 (pv 3) (Qa ((QJ (Qa (Qj Qk (pv 2) (pv 4) (fun _ _=>rfl)) (Qa (Qq (Xs (room 4 (by decide))) rfl G.srt PyProof.Rows.boot_sorted (Qa (pv 6) Qc)) Qc)))) Qc))))))))
    (Qi (Qp (pv 3)))))),?_⟩
  have m0:0≤c % 3:=Int.emod_nonneg _ (by decide)
  have m1:c % 3 < 3:=Int.emod_lt_of_pos _ (by decide)
  refine ⟨_,rfl,_,rfl,_,_,rfl,rfl,(by show (0:Int) < 3;decide),_,_,rfl,rfl,_,rfl,ln,_,rfl,hln,fun lk hlk=>?_⟩
  obtain ⟨mm,hmm⟩ : ∃ mm:Nat,1 + c % 3=(mm:Int):=⟨(1 + c % 3).toNat,by omega⟩
  dsimp only at hlk ⊢
  obtain ⟨kn,hkn⟩ : ∃ kn,kn=ns.take mm:=⟨_,rfl⟩
  have ecut:cutV (ns.map V.str) none (some (1 + c % 3))=kn.map V.str:=by rw [hmm,Mc,hkn,List.map_take]
  have g1:=Qf hlk (.lst (cutV (ns.map V.str) none (some (1 + c % 3))))
  have hlk1:upd H lk (.lst (cutV (ns.map V.str) none (some (1 + c % 3)))) lk=some (.lst (kn.map V.str)):=by rw [← ecut];exact Qb
  generalize upd H lk (.lst (cutV (ns.map V.str) none (some (1 + c % 3))))=H1 at g1 hlk1
  have hkl:kn.length=mm:=by rw [hkn,List.length_take];omega
  have hknd:kn.Nodup:=by rw [hkn];exact hnd.sublist (List.take_sublist _ _)
  have hkok:∀ x ∈ kn,PyData.strOk x=true:=fun x hx=>hnok x (List.mem_of_mem_take (by rw [← hkn];exact hx))
  have hkm:(kn.map V.str).length=kn.length:=List.length_map ..
  refine ⟨(by show 0≤sizeLine;decide),fun lw hlw=>?_⟩
  have k2:=Qf hlw (.lst [])
  refine ⟨_,rfl,lk,_,rfl,.inl (SqL.of (k2 _ _ hlk1)),_,rfl,by rw [hkm];omega,by rw [hkm];omega,?_⟩
  have en:(((kn.map V.str).length:Nat):Int).toNat=kn.length:=by rw [hkm];omega
  rw [en]
  refine Zs (lo:=0) (n:=kn.length) (fun i σ H'=>∃ (c4 c5 c6 c7 c8 c9 c10:Option V) (ks:List KdT),σ=[some (.int c),some (.ref ln),some (.ref lk),some (.ref lw),c4,c5,c6,c7,c8,c9,c10]∧Same H1 H'∧H' lw=some (.lst (ks.map fun k=>V.ref k.1))∧(∀ k ∈ ks,KdH K H' lw k∧KF kn k.2.2.2)∧(ks.map fun k=>k.2.1)=kn.take i)
    ⟨none,none,none,none,none,none,none,[],rfl,k2,Qb,fun k hk=>(nomatch hk),rfl⟩ ?_ ?_
  · rintro i σ H2 hi ⟨c4,c5,c6,c7,c8,c9,c10,ks,rfl,g2,hlw2,hks,hkk⟩
    have hksl:ks.length=i:=by
      have:=congrArg List.length hkk
      rw [List.length_map,List.length_take] at this
      omega
    refine ⟨_,rfl,_,rfl,c,_,rfl,by omega,by omega,fun fi f0 f1=>?_⟩
    refine ⟨(by show 0≤sizeLine;decide),fun lr hlr=>?_⟩
    have k3:=Qf hlr (.lst [])
    have hlrw:lw≠lr:=fun z=>by rw [← z,hlw2] at hlr;cases hlr
    refine ⟨fun v H'=>H'=upd H2 lr (.lst [])∧∃ n:Nat,v=.int (n:Int)∧1≤n∧n≤3,?_,?_⟩
    · refine ⟨_,rfl,_,_,rfl,rfl,(by show (0:Int) < 2;decide),_,_,rfl,rfl,?_⟩
      have p0:0≤fi % 2:=Int.emod_nonneg _ (by decide)
      have p1:fi % 2 < 2:=Int.emod_lt_of_pos _ (by decide)
      refine ⟨_,rfl,_,_,rfl,rfl,_,rfl,Y8 (fun _=>?_) (fun hb=>?_)⟩
      · refine ⟨_,rfl,_,_,rfl,rfl,⟨by decide,by decide⟩,_,_,rfl,rfl,(by show (0:Int) < 3;decide),rfl,.inr ⟨_,rfl,_,_,rfl,rfl,rfl,?_⟩⟩
        refine ⟨(2 + fi % 2 - (if decide (V.int (fi / 2 % 3)=V.int 0)=true then 1 else 0)).toNat,?_,?_,?_⟩
        · rw [Int.toNat_of_nonneg (by split <;> omega)]
        · split <;> omega
        · split <;> omega
      · refine .inr ⟨_,rfl,_,_,rfl,rfl,rfl,(2 + fi % 2).toNat,?_,by omega,by omega⟩
        dsimp only
        rw [Int.toNat_of_nonneg (by omega)]
        simp
    rintro v H3 ⟨rfl,cnt,rfl,hc1,hc3⟩
    refine ⟨_,rfl,by omega,by omega,?_⟩
    rw [Int.toNat_natCast]
    refine Zs (lo:=0) (n:=cnt) (fun r σ H'=>∃ (c7 c8 c9 c10:Option V) (rs:List PNx),σ=[some (.int c),some (.ref ln),some (.ref lk),some (.ref lw),some (.int (0 + (i:Int))),some (.int fi),some (.ref lr),c7,c8,c9,c10]∧Same H2 H'∧H' lr=some (.lst (rs.map fun t=>V.ref t.1))∧rs.length=r∧(∀ t ∈ rs,RowAt K H' t∧(∀ x ∈ t.2.2.2,x ∈ kn)∧t.2.2.2.length≤3)∧(∀ (j:Nat) t,rs[j]?=some t→ns[((fi / 16 + (j:Int)) % 8).toNat]?=some t.2.1)∧∀ t,rs[0]?=some t→t.2.2.2=[])
      ⟨_,_,_,_,[],rfl,k3,Qb,rfl,fun t ht=>(nomatch ht),fun j t h=>by simp at h,fun t h=>by simp at h⟩ ?_ ?_
    · rintro r σ H4 hr3 ⟨c7,c8,c9,c10,rs,rfl,g4,hlr4,hrl,hrs,hrn,hr0⟩
      refine ⟨_,rfl,_,rfl,_,_,rfl,rfl,.inl ⟨by decide,by decide⟩,_,_,rfl,rfl,_,rfl,_,_,rfl,rfl,c,_,rfl,by omega,by omega,fun nu n0 n1=>?_⟩
      refine ⟨fun σ' H'=>Same H4 H'∧∃ wi:Nat,wi≤3∧(r=0→wi=0)∧σ'=[some (.int c),some (.ref ln),some (.ref lk),some (.ref lw),some (.int (0 + (i:Int))),some (.int fi),some (.ref lr),some (.int (0 + (r:Int))),some (.int nu),some (.int (wi:Int)),c10],?_,?_⟩
      · refine ⟨_,rfl,_,_,rfl,rfl,(by show (0:Int) < 2;decide),_,_,rfl,rfl,_,rfl,_,_,rfl,rfl,(by show (0:Int) < 4;decide),(by show 3≤sizeLine;decide),fun pl hpl=>?_⟩
        have a0:0≤nu % 2:=Int.emod_nonneg _ (by decide)
        have a1:nu % 2 < 2:=Int.emod_lt_of_pos _ (by decide)
        have b0:0≤nu % 4:=Int.emod_nonneg _ (by decide)
        have b1:nu % 4 < 4:=Int.emod_lt_of_pos _ (by decide)
        have kl:=Qf hpl (.lst [.int 0,.int (1 + nu % 2),.int (nu % 4)])
        rcases (show r=0∨r=1∨r=2 by omega) with rfl | rfl | rfl
        · exact ⟨_,rfl,pl,_,_,_,rfl,rfl,SqL.of Qb,rfl,kl,0,by omega,fun _=>rfl,rfl⟩
        · exact ⟨_,rfl,pl,_,_,.int (1 + nu % 2),rfl,rfl,SqL.of Qb,rfl,kl,(1 + nu % 2).toNat,by omega,fun z=>by omega,by rw [Int.toNat_of_nonneg (by omega)];rfl⟩
        · exact ⟨_,rfl,pl,_,_,.int (nu % 4),rfl,rfl,SqL.of Qb,rfl,kl,(nu % 4).toNat,by omega,fun z=>by omega,by rw [Int.toNat_of_nonneg (by omega)];rfl⟩
      rintro σ H5 ⟨g5,wi,hw3,hw0,rfl⟩
      refine ⟨_,rfl,_,rfl,by omega,by omega,fun lb hlb=>?_⟩
      rw [Int.toNat_natCast]
      have hlk5:=g5 _ _ (g4 _ _ (g2 _ _ hlk1))
      refine ZJ (lo:=0) (n:=wi) (cs:=[some (.ref lk),some (.int nu)]) (tt:=fun _ H Q=>Q true H) (fun j ys H'=>∃ ss:List Str,ys=ss.map V.str∧ss.length=j∧(∀ x ∈ ss,x ∈ kn)∧H' lb=some (.lst ys)∧Same H5 H')
        ⟨[],rfl,rfl,fun x hx=>(nomatch hx),Qb,Qf hlb _⟩ ?_ ?_
      · rintro j ys H6 hj ⟨ss,rfl,hsl,hsk,hy,g6⟩
        refine Q7 ⟨_,rfl,_,rfl,_,rfl,nu,_,rfl,by omega,by omega,fun z z0 z1=>⟨_,rfl,lk,_,rfl,.inl (SqL.of (g6 _ _ hlk5)),_,_,rfl,rfl,(by rw [hkm];omega),?_⟩⟩
        obtain ⟨y,hyn,hat⟩:=ZA (xs:=kn.map V.str) (k:=((kn.map V.str).length:Int)) rfl (by rw [hkm];omega) z
        obtain ⟨x,hx,rfl⟩:=List.mem_map.mp hyn
        refine ⟨lk,_,_,_,rfl,rfl,SqL.of (g6 _ _ hlk5),hat,?_⟩
        refine Qw hj hy (by rw [List.length_map];omega) ⟨ss ++ [x],by simp,by simp [hsl],fun x' hx'=>?_,Qb,fun z u e=>?_⟩
        · rcases List.mem_append.mp hx' with hx' | hx'
          · exact hsk x' hx'
          · have:x'=x:=by simpa using hx'
            rw [this];exact hx
        · rw [Qg (Qh e hlb)];exact g6 _ _ e
      rintro ys H6 ⟨ss,rfl,hsl,hsk,hy,g6⟩
      have g46:=g5.trans g6
      have g16:=(g1.trans (g2.trans g4)).trans g46
      have hi8:0≤(fi / 16 + (0 + (r:Int))) % 8:=Int.emod_nonneg _ (by decide)
      have hi9:(fi / 16 + (0 + (r:Int))) % 8 < 8:=Int.emod_lt_of_pos _ (by decide)
      have hnx:((fi / 16 + (0 + (r:Int))) % 8).toNat < ns.length:=by omega
      have hat:atI (ns.map V.str) ((fi / 16 + (0 + (r:Int))) % 8)=some (.str ns[((fi / 16 + (0 + (r:Int))) % 8).toNat]):=by
        have z:=Qv (xs:=ns.map V.str) (j:=((fi / 16 + (0 + (r:Int))) % 8).toNat) (v:=.str ns[((fi / 16 + (0 + (r:Int))) % 8).toNat]) (by rw [List.getElem?_map,List.getElem?_eq_getElem hnx];rfl)
        rw [Int.toNat_of_nonneg hi8] at z
        exact z
      refine ⟨_,rfl,.inl ⟨rfl,_,SqL.of (g46 _ _ hlr4)⟩,_,rfl,_,rfl,_,_,rfl,rfl,⟨by decide,by decide⟩,_,rfl,_,_,rfl,rfl,_,_,rfl,rfl,(by show (0:Int) < 8;decide),ln,_,_,_,rfl,rfl,g16.seq hln,hat,_,rfl,lb,_,rfl,.inl ⟨SqL.of hy,fun pb hpb=>⟨(by show 2≤sizeLine;decide),fun pr hpr=>?_⟩⟩⟩
      generalize hnm:ns[((fi / 16 + (0 + (r:Int))) % 8).toNat]=nm
      have e1:=Qf hpb (.tup (ss.map V.str))
      have e2:=Qf hpr (.tup [.str nm,.ref pb])
      have e12:=e1.trans e2
      have hlr7:=e12 _ _ (g46 _ _ hlr4)
      refine ⟨lr,_,_,rfl,rfl,hlr7,by rw [List.length_map,QH];omega,?_⟩
      refine ⟨_,_,_,_,rs ++ [(pr,nm,pb,ss)],rfl,fun z u e=>?_,by rw [Qb];simp,by rw [List.length_append,List.length_singleton,hrl],fun t ht=>?_,fun j t e=>?_,fun t e=>?_⟩
      · rw [Qg (Qh e hlr)];exact e12 _ _ (g46 _ _ (g4 _ _ e))
      · rcases List.mem_append.mp ht with ht | ht
        · obtain ⟨h1,h2⟩:=hrs t ht
          have h1':=h1.same (g46.trans e12)
          exact ⟨⟨h1'.1.put hlr7,h1'.2.put hlr7⟩,h2⟩
        · have:t=(pr,nm,pb,ss):=by simpa using ht
          rw [this]
          exact ⟨⟨SqT.put (SqT.of Qb) hlr7,SqT.put (e2.seqT (SqT.of Qb)) hlr7⟩,hsk,by show ss.length≤3;omega⟩
      · by_cases hj:j < r
        · rw [List.getElem?_append_left (by omega)] at e
          exact hrn j t e
        · have hjr:j=r:=by
            have:=(List.getElem?_eq_some_iff.mp e).1
            rw [List.length_append,List.length_singleton] at this
            omega
          rw [List.getElem?_append_right (by omega),hrl,hjr,Nat.sub_self] at e
          obtain rfl:=Option.some.inj e
          rw [hjr,← hnm,show fi / 16 + (r:Int)=fi / 16 + (0 + (r:Int)) by omega]
          exact List.getElem?_eq_getElem hnx
      · by_cases hr0':r=0
        · have hrs0:rs=[]:=List.length_eq_zero_iff.mp (by omega)
          rw [hrs0] at e
          obtain rfl:=Option.some.inj e
          have:ss.length=0:=by rw [hsl];exact hw0 hr0'
          exact List.length_eq_zero_iff.mp this
        · rw [List.getElem?_append_left (by omega)] at e
          exact hr0 t e
    rintro σ H4 ⟨c7,c8,c9,c10,rs,rfl,g4,hlr4,hrl,hrs,hrn,hr0⟩
    have hat:atI (kn.map V.str) (0 + (i:Int))=some (.str kn[i]):=by
      rw [Int.zero_add]
      exact Qv (by rw [List.getElem?_map,List.getElem?_eq_getElem hi];rfl)
    have hrnd:(rs.map fun t=>t.2.1).Nodup:=by
      rw [List.Nodup,List.pairwise_iff_getElem]
      intro a b ha hb hab
      rw [List.length_map] at ha hb
      rw [List.getElem_map,List.getElem_map]
      intro e
      have h1:=hrn a rs[a] (List.getElem?_eq_getElem ha)
      have h2:=hrn b rs[b] (List.getElem?_eq_getElem hb)
      rw [e,← h2] at h1
      have hl1:((fi / 16 + (a:Int)) % 8).toNat < ns.length:=by
        have:=Int.emod_lt_of_pos (fi / 16 + (a:Int)) (show (0:Int) < 8 by decide)
        have:=Int.emod_nonneg (fi / 16 + (a:Int)) (show (8:Int)≠0 by decide)
        omega
      have:=(List.getElem?_inj hl1 hnd).mp h1
      omega
    have hlr4':=SqL.of (K:=K) hlr4
    have hrs4:∀ t ∈ rs,SqT K H4 t.1 [.str t.2.1,.ref t.2.2.1]∧SqT K H4 t.2.2.1 (t.2.2.2.map V.str)∧∀ x ∈ t.2.2.2,PyData.strOk x=true:=fun t ht=>⟨(hrs t ht).1.1,(hrs t ht).1.2,fun x hx=>hkok x ((hrs t ht).2.1 x hx)⟩
    have hlw4:=g4 _ _ hlw2
    refine ⟨_,rfl,.inl ⟨rfl,_,SqL.of hlw4⟩,_,rfl,_,rfl,lk,_,_,_,rfl,rfl,SqL.of (g4 _ _ (g2 _ _ hlk1)),hat,_,rfl,lr,rs,rfl,hlr4',hrs4,hrnd,by omega,fun out po hperm hasc hpo=>⟨(by show 2≤sizeLine;decide),fun pk hpk=>?_⟩⟩
    have e1:=Qf hpo (.lst (out.map fun t=>V.ref t.1))
    have e2:=Qf hpk (.tup [.str kn[i],.ref po])
    have e12:=e1.trans e2
    have hlw6:=e12 _ _ hlw4
    have hpow:po≠lw:=fun z=>by rw [z,hlw4] at hpo;cases hpo
    refine ⟨lw,_,_,rfl,rfl,hlw6,by rw [List.length_map,QH];omega,?_⟩
    have hom:∀ t ∈ out,t ∈ rs:=fun t ht=>hperm.mem_iff.mp ht
    refine ⟨_,_,_,_,_,_,_,ks ++ [(pk,kn[i],po,out)],rfl,fun z u e=>?_,by rw [Qb];simp,fun k hk=>?_,?_⟩
    · rw [Qg (Qh e hlw)];exact e12 _ _ (g4 _ _ (g2 _ _ e))
    · rcases List.mem_append.mp hk with hk | hk
      · exact ⟨KdH.put hlw6 ((hks k hk).1.same (g4.trans e12)),(hks k hk).2⟩
      · have:k=(pk,kn[i],po,out):=by simpa using hk
        rw [this]
        refine ⟨KdH.put hlw6 ⟨SqT.of Qb,e2 _ _ Qb,hpow,fun t ht=>((hrs t (hom t ht)).1).same e12⟩,⟨⟨?_,?_,fun t ht=>?_,fun t ht x hx=>?_,fun t ht=>?_⟩,?_,fun t ht=>(hrs t (hom t ht)).2.1,fun t ht=>(hrs t (hom t ht)).2.2⟩⟩
        · exact (hperm.map _).nodup_iff.mpr hrnd
        · show out.length≤10
          rw [hperm.length_eq];omega
        · obtain ⟨j,hj,e⟩:=List.getElem_of_mem (hom t ht)
          have:=hrn j t (by rw [List.getElem?_eq_getElem hj,e])
          exact hnok _ (List.mem_of_getElem? this)
        · exact hkok x ((hrs t (hom t ht)).2.1 x hx)
        · have:=(hrs t (hom t ht)).2.2
          omega
        · have h0:0 < rs.length:=by omega
          exact ⟨rs[0],hperm.mem_iff.mpr (List.getElem_mem h0),hr0 rs[0] (List.getElem?_eq_getElem h0)⟩
    · rw [List.map_append,hkk,List.take_add_one,List.getElem?_eq_getElem hi];rfl
  · rintro σ H2 ⟨c4,c5,c6,c7,c8,c9,c10,ks,rfl,g2,hlw2,hks,hkk⟩
    rw [List.take_of_length_le (Nat.le_refl _)] at hkk
    have hksl:ks.length=kn.length:=by
      have:=congrArg List.length hkk
      rwa [List.length_map] at this
    refine ⟨_,rfl,q lw H2 ks (g1.trans g2) ⟨SqL.of hlw2,fun k hk=>⟨(hks k hk).1.1,SqL.of (hks k hk).1.2.1,(hks k hk).1.2.2.2⟩⟩ ⟨⟨by rw [hkk];exact hknd,by omega,fun k hk=>(hks k hk).2.ok⟩,by omega,by omega,fun k hk=>hkok _ (by rw [← hkk];exact List.mem_map.mpr ⟨k,hk,rfl⟩),fun k hk=>by rw [hkk];exact (hks k hk).2⟩ fun k hk=>List.mem_of_mem_take (by rw [← hkn,← hkk];exact List.mem_map.mpr ⟨k,hk,rfl⟩)⟩
end
end K22
namespace K22
open PySem L2 TM TT K9 K11
def MdB (K:PySem.W.Frag) (H:Hp) (x:Addr) (m:MdT):Prop:=SqT K H m.1 [.str m.2.1,.ref m.2.2.1]∧H m.2.2.1=some (.lst m.2.2.2.1)∧m.2.2.1≠x∧TmAll K H m.2.2.2.1 m.2.2.2.2
theorem MdB.same {K:PySem.W.Frag} {H H':Hp} {x:Addr} {m:MdT} (g:Same H H') (h:MdB K H x m):MdB K H' x m:=⟨g.seqT h.1,g _ _ h.2.1,h.2.2.1,h.2.2.2.mono fun _ _=>g.seqT⟩
theorem MdB.put {K:PySem.W.Frag} {H:Hp} {x:Addr} {m:MdT} {ys:List V} {o:HO} (hx:H x=some (.lst ys)) (h:MdB K H x m):MdB K (upd H x o) x m :=
  ⟨h.1.put hx,by rw [Qg h.2.2.1];exact h.2.1,h.2.2.1,h.2.2.2.mono fun _ _ z=>z.put hx⟩
theorem MdB.at {K:PySem.W.Frag} {H:Hp} {x:Addr} {m:MdT} (h:MdB K H x m):MdAt K H m:=⟨h.1,SqL.of h.2.1,h.2.2.2⟩
def L7 (own:List Str) (rs:List PNx) (ts:List Tm):Prop:=ts.length=rs.length∧∀ (j:Nat) r t,rs[j]?=some r→ts[j]?=some t→TF own r.2.2.2 3 t
structure MF (ks:List KdT) (own:List Str) (m:MdT):Prop where
  rf:L7 own (Qs ks m.2.1) m.2.2.2.2
  kd:m.2.1 ∈ ks.map fun k=>k.2.1
theorem Jb {ks:List KdT} (ok:WoodOk ks) {k:KdT} (hk:k ∈ ks):Qs ks k.2.1=k.2.2.2∧ks.find? (fun x=>decide (x.2.1=k.2.1))=some k:=by
  have hf:ks.find? (fun x=>decide (x.2.1=k.2.1))=some k:=by
    obtain ⟨i,hi,e⟩:=List.getElem_of_mem hk
    refine YM (i:=i) (by rw [List.getElem?_eq_getElem hi,e]) (by simp) fun j y hj hy=>decide_eq_false fun z=>?_
    have h1:=List.pairwise_iff_getElem.mp ok.nd j i (by rw [List.length_map];omega) (by rw [List.length_map];omega) hj
    rw [List.getElem_map,List.getElem_map,e,(List.getElem?_eq_some_iff.mp hy).2] at h1
    exact h1 z
  exact ⟨by unfold Qs;rw [hf];rfl,hf⟩
def Y5 (K:PySem.W.Frag):Sp:=fun vs H Q _=>∃ (a:Addr) (cs:List Int) (lw ln:Addr) (ks:List KdT) (ns:List Str),vs=[.ref a,.ref lw,.ref ln]∧SqL K H a (cs.map V.int)∧WoodAt K H lw ks∧WF ks∧SqL K H ln (ns.map V.str)∧ns.length=8∧(∀ x ∈ ns,PyData.strOk x=true) ∧
  ∀ (p lm:Addr) (v:V) (H':Hp) (ms:List MdT) (t:Tm) (k0:KdT),Same H H'→SqT K H' p [.ref lw,v,.ref lm]→H' lm=some (.lst (ms.map fun m=>V.ref m.1))→(∀ m ∈ ms,MdB K H' lm m∧MF ks (mks (mds ms)) m)→0 < ms.length→ms.length≤4→ks[0]?=some k0→TmV K H' v t→TF (mks (mds ms)) [k0.2.1] 3 t→Q (.ref p) H'
abbrev Pe:List Str:=["_law_script", "_law_wood_here", "_law_names_here", "_law_kinds", "_law_number", "_law_owners", "_law_modes", "_law_used", "_law_kind", "_law_rules", "_law_row", "_law_calls_here", "_law_start"]
section
variable {P:Program} {w:World} {K:PySem.W.Frag} {mg:Str→Option Value} {base:Heap} {f:Addr} {fd:FuncData}
theorem QP:FnScope Pe ["_law_script", "_law_wood_here", "_law_names_here"] (defScope Jg):=⟨rfl,rfl,rfl,by decide +kernel,rfl,by decide +kernel,by decide +kernel⟩
theorem WS (F:Fun K "_law_turning" "_law_turning" Jg f fd) (G:Gm mg) (RC:Fn P w K mg base 1 "_law_cell_at" ["_law_script", "_law_k"] (Xy K)) (RM:Fn P w K mg base 1 "_law_mixed" ["_law_cell", "_law_k"] Zi) (RL:Fn P w K mg base 1 "_law_calls" ["_law_branches", "_law_owners"] (J3 K)) (RT:Fn P w K mg base 4 "_law_term" U3 (Yv K 3)) :
    FnOk P w K mg base CX0 5 f fd ["_law_script", "_law_wood_here", "_law_names_here"] (Y5 K):=by
  refine F.ok QP (fun vs H Q E h=>?_) (fun cdv A outer s H vs Q E hr h=>?_)
  · obtain ⟨a,cs,lw,ln,ks,ns,rfl,_⟩:=h
    rfl
  obtain ⟨a,cs,lw,ln,ks,ns,rfl,hS,hW,hWF,hln,hn8,hnok,q⟩:=h
  refine ⟨_,(Qe (Qn (i:=3) QP.nd rfl (Or.inr rfl) (QI (CompG.many (xs:=["_law_kind", "_law_rows"]) (caps:=[]) (cap:=[]) (cs:=[]) rfl rfl (by decide +kernel) (by decide +kernel) (by decide +kernel) (by decide +kernel) (by decide +kernel) (by decide +kernel) rfl rfl rfl) rfl (QY (pv 1)) (X2 (CompG.many (xs:=["_law_kind", "_law_rows"]) (caps:=[]) (cap:=[]) (cs:=[]) rfl rfl (by decide +kernel) (by decide +kernel) (by decide +kernel) (by decide +kernel) (by decide +kernel) (by decide +kernel) rfl rfl rfl) rfl) (fun _ _ _ _=>QX) (fun _ _ _ _=>pv 0)))
    (Qe (Qn (i:=4) QP.nd rfl (Or.inr rfl) (Qr RC hr (Qa (pv 0) (Qa (Qd) Qc))))
    (Qe (Qn (i:=5) QP.nd rfl (Or.inl rfl) (Qm Nw (QE (Qa (Qj Qk (pv 3) Qd (fun _ _=>rfl)) Qc)) (QI (CompG.many (xs:=["_law_i"]) (caps:=["_law_kinds", "_law_number"]) (cap:=[3,4]) (cs:=[_,_]) rfl rfl (by decide +kernel) (by decide +kernel) (by decide +kernel) (by decide +kernel) (by decide +kernel) (by decide +kernel) rfl rfl rfl) rfl (QO rfl G.rng (Qa (Qm Qz (pv 4) Qd) Qc)) (Zk (CompG.many (xs:=["_law_i"]) (caps:=["_law_kinds", "_law_number"]) (cap:=[3,4]) (cs:=[_,_]) rfl rfl (by decide +kernel) (by decide +kernel) (by decide +kernel) (by decide +kernel) (by decide +kernel) (by decide +kernel) rfl rfl rfl)) (fun _ _ _ _=>QX) (fun _ _ _ _=>Qj (r:=Jn K) Qk (pv 1) (Qm (r:=rI (fun _ j=>0 < j) fun i j=>.int (i % j)) Qz (Qr RM hr (Qa (pv 2) (Qa (pv 0) Qc))) (Qq (r:=NT K) Qo rfl G.len PySem.boot_len (Qa (pv 1) Qc))) (fun _ _=>rfl)))))
    (Qe (Qn (i:=6) QP.nd rfl (Or.inl rfl) (QE Qc))
    (Qe (Qn (i:=7) QP.nd rfl (Or.inl rfl) Qd)
    (Qe (QU PassesOwn.never rfl (QY (pv 5)) (Qu (i:=8) QP.nd rfl (Or.inl rfl)) (Qe (Qn (i:=9) QP.nd rfl (Or.inl rfl) (QE Qc))
    (Qe (QU PassesOwn.never rfl (QY (Zy (ZL hr) (QB (Zg rfl) rfl G.dct PyProof.Rows.boot_dict (Qa (pv 1) Qc)) (pv 8) (fun _ _=>rfl))) (Qu (i:=10) QP.nd rfl (Or.inl rfl)) (Qe (Qn (i:=11) QP.nd rfl (Or.inl rfl) (Qr RL hr (Qa (Qj Ql (pv 10) Qd (fun _ _=>rfl)) (Qa (pv 5) Qc))))
    (Qe (Q2 (ZB PySem.F.plainAttrs_list PySem.F.slot_list_append PySem.F.type_list_append Q0 (pv 9) (Qa (Qr RT hr (Qa (Qr RC hr (Qa (pv 0) (Qa (pv 7) Qc))) (Qa (Qd) (Qa (Qd) (Qa (pv 11) (Qa (pv 2) (Qa (Z4) Qc))))))) Qc)))
    (Qi (Qn (i:=7) QP.nd rfl (Or.inl rfl) (Qm QG (pv 7) Qd))))))
    (Qi (Q2 (ZB PySem.F.plainAttrs_list PySem.F.slot_list_append PySem.F.type_list_append Q0 (pv 6) (Qa ((QJ (Qa (pv 8) (Qa (pv 9) Qc)))) Qc)))))))
    (Qe (Qn (i:=12) QP.nd rfl (Or.inl rfl) (Qr RT hr (Qa (Qr RC hr (Qa (pv 0) (Qa (Qd) Qc))) (Qa (Qd) (Qa (Qd) (Qa (Qr RL hr (Qa ((QE (Qa (Qj Qk (pv 3) Qd (fun _ _=>rfl)) Qc))) (Qa (pv 5) Qc))) (Qa (pv 2) (Qa (Z4) Qc))))))))
    (Qi (Qp (QJ (Qa (pv 1) (Qa (pv 12) (Qa (pv 6) Qc))))))))))))),?_⟩
  have hkl:=hWF.l3
  have hkp:=hWF.ne
  obtain ⟨kn,hkn⟩ : ∃ kn,kn=ks.map fun k=>k.2.1:=⟨_,rfl⟩
  have hknl:kn.length=ks.length:=by rw [hkn,List.length_map]
  refine ⟨_,rfl,lw,rfl,⟨_,hW.1⟩,fun lk hlk=>?_⟩
  refine Xt (K:=K) (xs:=ks.map fun k=>V.ref k.1) (cs:=[]) (tt:=fun _ H Q=>Q true H) (te:=Zf 0) (fun j ys H'=>ys=(kn.take j).map V.str∧H' lk=some (.lst ys)∧Same H H')
    ⟨rfl,Qb,Qf hlk _⟩ ?_ ?_ ?_
  · rintro j ys H' _ ⟨_,_,g⟩
    exact (hW.same g).1
  · rintro j x ys H' hj hx ⟨rfl,hy,g⟩
    have hjk:j < ks.length:=by simpa using hj
    obtain rfl:x=.ref ks[j].1:=by
      rw [List.getElem?_map,List.getElem?_eq_getElem hjk] at hx
      exact (Option.some.inj hx).symm
    refine ⟨ks[j].1,_,_,rfl,((hW.same g).2 _ (List.getElem_mem hjk)).1,Q7 ⟨_,rfl,Qw hj hy (by rw [List.length_map,List.length_take];omega) ⟨?_,Qb,fun z u e=>?_⟩⟩⟩
    · have ekn:kn[j]?=some ks[j].2.1:=by rw [hkn,List.getElem?_map,List.getElem?_eq_getElem hjk];rfl
      rw [List.take_add_one,ekn];simp
    · rw [Qg (Qh e hlk)];exact g _ _ e
  rintro ys H1 ⟨rfl,hlk1,g1⟩
  rw [List.length_map,List.take_of_length_le (by omega)] at hlk1
  have hkm:(kn.map V.str).length=kn.length:=List.length_map ..
  refine ⟨_,rfl,a,cs,3,rfl,by decide,g1.seq hS,fun nu=>?_⟩
  have hk0l:0 < kn.length:=by omega
  have hat0:atI (kn.map V.str) 0=some (.str kn[0]):=Qv (j:=0) (by rw [List.getElem?_map,List.getElem?_eq_getElem hk0l];rfl)
  refine ⟨_,rfl,lk,_,0,_,rfl,rfl,SqL.of hlk1,hat0,(by show 1≤sizeLine;decide),fun l1 hl1=>?_⟩
  have k1:=Qf hl1 (.lst [.str kn[0]])
  have q0:0≤nu % 4:=Int.emod_nonneg _ (by decide)
  have q1:nu % 4 < 4:=Int.emod_lt_of_pos _ (by decide)
  refine ⟨_,rfl,_,_,rfl,rfl,(by show (0:Int) < 4;decide),_,rfl,by omega,by omega,fun l2 hl2=>?_⟩
  dsimp only
  obtain ⟨mo,hmo⟩ : ∃ mo:Nat,nu % 4=(mo:Int):=⟨(nu % 4).toNat,by omega⟩
  rw [hmo,Int.toNat_natCast]
  refine ZJ (lo:=0) (n:=mo) (cs:=[some (.ref lk),some (.int nu)]) (tt:=fun _ H Q=>Q true H) (fun j ys H'=>∃ ss:List Str,ys=ss.map V.str∧ss.length=j∧(∀ x ∈ ss,x ∈ kn)∧H' l2=some (.lst ys)∧Same (upd H1 l1 (.lst [.str kn[0]])) H')
    ⟨[],rfl,rfl,fun x hx=>(nomatch hx),Qb,Qf hl2 _⟩ ?_ ?_
  · rintro j ys H2 hj ⟨ss,rfl,hsl,hsk,hy,g2⟩
    have hlk2:=g2 _ _ (k1 _ _ hlk1)
    refine Q7 ⟨_,rfl,_,rfl,_,rfl,nu,_,rfl,by omega,by omega,fun z z0 z1=>⟨_,rfl,lk,_,rfl,.inl (SqL.of hlk2),_,_,rfl,rfl,(by rw [hkm];omega),?_⟩⟩
    obtain ⟨y,hyn,hat⟩:=ZA (xs:=kn.map V.str) (k:=((kn.map V.str).length:Int)) rfl (by rw [hkm];omega) z
    obtain ⟨x,hx,rfl⟩:=List.mem_map.mp hyn
    refine ⟨lk,_,_,_,rfl,rfl,SqL.of hlk2,hat,?_⟩
    refine Qw hj hy (by rw [List.length_map];omega) ⟨ss ++ [x],by simp,by simp [hsl],fun x' hx'=>?_,Qb,fun z u e=>?_⟩
    · rcases List.mem_append.mp hx' with hx' | hx'
      · exact hsk x' hx'
      · have:x'=x:=by simpa using hx'
        rw [this];exact hx
    · rw [Qg (Qh e hl2)];exact g2 _ _ e
  rintro ys H2 ⟨ss,rfl,hsl,hsk,hy,g2⟩
  refine ⟨l1,l2,_,_,rfl,rfl,SqL.of (g2 _ _ Qb),SqL.of hy,by rw [List.length_map,QH];simp only [List.length_singleton];omega,fun lo hlo=>?_⟩
  obtain ⟨own,hown⟩ : ∃ own,own=kn[0] :: ss:=⟨_,rfl⟩
  have k3:=Qf hlo (.lst ([.str kn[0]] ++ ss.map V.str))
  have g3:=g1.trans (k1.trans (g2.trans k3))
  have hlo3:upd H2 lo (.lst ([.str kn[0]] ++ ss.map V.str)) lo=some (.lst (own.map V.str)):=by rw [hown];exact Qb
  have hlk3:=(k1.trans (g2.trans k3)) _ _ hlk1
  generalize upd H2 lo (.lst ([.str kn[0]] ++ ss.map V.str))=H3 at g3 hlo3 hlk3
  have hol:own.length=mo + 1:=by rw [hown,List.length_cons,hsl]
  have hok:∀ x ∈ own,x ∈ kn:=fun x hx=>by
    rw [hown] at hx
    rcases List.mem_cons.mp hx with rfl | hx
    · exact List.getElem_mem hk0l
    · exact hsk x hx
  clear hy g2 hlo hl1 hl2 k1 k3
  refine ⟨(by show 0≤sizeLine;decide),fun lm hlm=>?_⟩
  have k4:=Qf hlm (.lst [])
  refine ⟨_,rfl,lo,rfl,⟨_,SqL.of (k4 _ _ hlo3)⟩,?_⟩
  refine YW (K:=K) (xs:=own.map V.str) (fun i σ H'=>∃ (c8 c9 c10 c11:Option V) (used:Nat) (ms:List MdT),σ=[some (.ref a),some (.ref lw),some (.ref ln),some (.ref lk),some (.int nu),some (.ref lo),some (.ref lm),some (.int (used:Int)),c8,c9,c10,c11,none]∧Same H3 H'∧H' lm=some (.lst (ms.map fun m=>V.ref m.1))∧(∀ m ∈ ms,MdB K H' lm m∧MF ks own m)∧(ms.map fun m=>m.2.1)=own.take i)
    ⟨none,none,none,none,4,[],rfl,k4,Qb,fun m hm=>(nomatch hm),rfl⟩ ?_ ?_ ?_
  · rintro i σ H' _ ⟨_,_,_,_,_,_,_,g,_⟩
    exact SqL.of (g _ _ hlo3)
  · rintro i x σ H4 hx ⟨c8,c9,c10,c11,used,ms,rfl,g4,hlm4,hms,hmk⟩
    have hi:i < own.length:=by
      have:=(List.getElem?_eq_some_iff.mp hx).1
      simpa using this
    obtain rfl:x=.str own[i]:=by
      rw [List.getElem?_map,List.getElem?_eq_getElem hi] at hx
      exact (Option.some.inj hx).symm
    have hmsl:ms.length=i:=by
      have:=congrArg List.length hmk
      rw [List.length_map,List.length_take] at this
      omega
    have hoi:=hok _ (List.getElem_mem hi)
    rw [hkn] at hoi
    obtain ⟨kd,hkd,ekd⟩:=List.mem_map.mp hoi
    obtain ⟨erow,hfd⟩:=Jb hWF.ok hkd
    have g34:=g3.trans g4
    refine ⟨(by show 0≤sizeLine;decide),fun lr hlr=>?_⟩
    have k5:=Qf hlr (.lst [])
    have hmr:lm≠lr:=fun z=>by rw [← z,hlm4] at hlr;cases hlr
    have hW5:=hW.same (g34.trans k5)
    refine ⟨_,rfl,lw,wts ks,rfl,wdA hW5,wdB hW5,wdC hWF.ok,wdD hWF.ok,fun d hd=>⟨_,rfl,d,.ref kd.2.2.1,rfl,Xc Qb (by rw [← ekd];exact hfd),kd.2.2.1,rfl,?_⟩⟩
    have k6:=Qf hd (.dK (wkv ks))
    have k56:=k5.trans k6
    have hRk:∀ H',Same H4 H'→RowsL K H' kd.2.2.1 kd.2.2.2:=fun H' g=>((hW.same (g34.trans g)).2 kd hkd).2
    refine ⟨⟨_,(hRk _ k56).1⟩,?_⟩
    refine YW (K:=K) (xs:=kd.2.2.2.map fun t=>V.ref t.1) (fun j σ H'=>∃ (c10 c11:Option V) (used:Nat) (us:List V) (ts:List Tm),σ=[some (.ref a),some (.ref lw),some (.ref ln),some (.ref lk),some (.int nu),some (.ref lo),some (.ref lm),some (.int (used:Int)),some (.str own[i]),some (.ref lr),c10,c11,none]∧Same H4 H'∧H' lr=some (.lst us)∧TmAll K H' us ts∧ts.length=j∧∀ (n:Nat) r t,kd.2.2.2[n]?=some r→ts[n]?=some t→TF own r.2.2.2 3 t)
      ⟨_,_,used,[],[],rfl,k56,k6 _ _ Qb,.nil,rfl,fun n r t _ h=>by simp at h⟩ ?_ ?_ ?_
    · rintro j σ H' _ ⟨_,_,_,_,_,_,g,_⟩
      exact (hRk _ g).1
    · rintro j x σ H5 hx ⟨c10,c11,used,us,ts,rfl,g5,hlr5,hts,htl,hfit⟩
      have hj:j < kd.2.2.2.length:=by
        have:=(List.getElem?_eq_some_iff.mp hx).1
        simpa using this
      obtain rfl:x=.ref kd.2.2.2[j].1:=by
        rw [List.getElem?_map,List.getElem?_eq_getElem hj] at hx
        exact (Option.some.inj hx).symm
      have hrm:=List.getElem_mem hj
      have hRA:=(hRk _ g5).2 _ hrm
      have hkf:=hWF.kf kd hkd
      have h10:=hkf.ok.len
      have hul:=hts.length
      refine ⟨_,rfl,_,_,1,_,rfl,rfl,hRA.1,rfl,_,rfl,kd.2.2.2[j].2.2.1,lo,_,own,rfl,.inl hRA.2,SqL.of (g5 _ _ (g4 _ _ hlo3)),by have:=hkf.w3 _ hrm;omega,by omega,fun lc H6 cts g6 hlc hcts hcf hcl=>?_⟩
      have g36:=g34.trans (g5.trans g6)
      refine ⟨_,rfl,.inl ⟨rfl,_,SqL.of (g6 _ _ hlr5)⟩,_,rfl,_,rfl,a,cs,_,rfl,by omega,g36.seq hS,fun cc=>⟨_,rfl,_,rfl,cc,0,2,lc,ln,true,cts,ns,own,kd.2.2.2[j].2.2.2,rfl,by omega,rfl,by decide,by decide,SqL.of hlc,hcts,hcf,hcl,g36.seq hln,hn8,hnok,fun v H7 t g7 hv ht=>?_⟩⟩
      have hlr7:=g7 _ _ (g6 _ _ hlr5)
      refine ⟨lr,us,v,rfl,rfl,hlr7,by rw [QH];omega,?_⟩
      refine ⟨_,rfl,_,_,rfl,rfl,_,_,used + 1,us ++ [v],ts ++ [t],rfl,fun z u e=>?_,Qb,TmAll.append (hts.mono fun _ _ h=>((g6.trans g7).seqT h).put hlr7) (.cons (hv.mono fun _ _ h=>h.put hlr7) .nil),by rw [List.length_append,List.length_singleton,htl],fun n r t' hr' ht'=>?_⟩
      · rw [Qg (Qh e hlr)];exact g7 _ _ (g6 _ _ (g5 _ _ e))
      · by_cases hn:n < j
        · rw [List.getElem?_append_left (by omega)] at ht'
          exact hfit n r t' hr' ht'
        · have hnj:n=j:=by
            have:=(List.getElem?_eq_some_iff.mp ht').1
            rw [List.length_append,List.length_singleton] at this
            omega
          rw [List.getElem?_append_right (by omega),htl,hnj,Nat.sub_self] at ht'
          obtain rfl:=Option.some.inj ht'
          rw [hnj,List.getElem?_eq_getElem hj] at hr'
          obtain rfl:=Option.some.inj hr'
          exact ht
    · rintro σ H5 ⟨c10,c11,used,us,ts,rfl,g5,hlr5,hts,htl,hfit⟩
      rw [List.length_map] at htl
      have hlm5:=g5 _ _ hlm4
      refine ⟨_,rfl,.inl ⟨rfl,_,SqL.of hlm5⟩,_,rfl,_,rfl,(by show 2≤sizeLine;decide),fun pm hpm=>?_⟩
      have k7:=Qf hpm (.tup [.str own[i],.ref lr])
      have hlm6:=k7 _ _ hlm5
      refine ⟨lm,_,_,rfl,rfl,hlm6,by rw [List.length_map,QH];omega,?_⟩
      refine ⟨_,_,_,_,used,ms ++ [(pm,own[i],lr,us,ts)],rfl,fun z u e=>?_,by rw [Qb];simp,fun m hm=>?_,?_⟩
      · rw [Qg (Qh e hlm)];exact k7 _ _ (g5 _ _ (g4 _ _ e))
      · rcases List.mem_append.mp hm with hm | hm
        · exact ⟨MdB.put hlm6 ((hms m hm).1.same (g5.trans k7)),(hms m hm).2⟩
        · have:m=(pm,own[i],lr,us,ts):=by simpa using hm
          rw [this]
          refine ⟨MdB.put hlm6 ⟨SqT.of Qb,k7 _ _ hlr5,Ne.symm hmr,hts.mono fun _ _=>k7.seqT⟩,⟨⟨?_,fun j r t h1 h2=>?_⟩,hoi⟩⟩
          · show ts.length=(Qs ks own[i]).length
            rw [← ekd,erow];exact htl
          · have h1':(Qs ks own[i])[j]?=some r:=h1
            rw [← ekd,erow] at h1'
            exact hfit j r t h1' h2
      · rw [List.map_append,hmk,List.take_add_one,List.getElem?_eq_getElem hi];rfl
  rintro σ H4 ⟨c8,c9,c10,c11,used,ms,rfl,g4,hlm4,hms,hmk⟩
  rw [List.length_map,List.take_of_length_le (Nat.le_refl _)] at hmk
  have emk:mks (mds ms)=own:=by
    rw [← hmk]
    show (ms.map MdT.md).map (·.1)=_
    rw [List.map_map];rfl
  have hmsl:ms.length=own.length:=by rw [← hmk,List.length_map]
  have g34:=g3.trans g4
  have hlk4:=g4 _ _ hlk3
  refine ⟨_,rfl,a,cs,2,rfl,by decide,g34.seq hS,fun cc=>⟨_,rfl,lk,_,0,_,rfl,rfl,SqL.of hlk4,hat0,(by show 1≤sizeLine;decide),fun lb hlb=>?_⟩⟩
  have k5:=Qf hlb (.lst [.str kn[0]])
  refine ⟨_,rfl,lb,lo,[kn[0]],own,rfl,.inr (SqL.of Qb),SqL.of (k5 _ _ (g4 _ _ hlo3)),by show 1≤4;decide,by omega,fun lc H6 cts g6 hlc hcts hcf hcl=>?_⟩
  have g36:=g34.trans (k5.trans g6)
  refine ⟨_,rfl,cc,0,2,lc,ln,false,cts,ns,own,[kn[0]],rfl,by omega,rfl,by decide,by decide,SqL.of hlc,hcts,hcf,hcl,g36.seq hln,hn8,hnok,fun v H7 t g7 hv ht=>?_⟩
  refine ⟨_,rfl,_,rfl,_,rfl,(by show 3≤sizeLine;decide),fun pt hpt=>?_⟩
  have k8:=Qf hpt (.tup [.ref lw,v,.ref lm])
  have g48:=k5.trans (g6.trans (g7.trans k8))
  have hk0:ks[0]?=some ks[0]:=List.getElem?_eq_getElem hkp
  have ekn0:kn[0]=ks[0].2.1:=by
    have e:kn[0]?=some ks[0].2.1:=by rw [hkn,List.getElem?_map,hk0];rfl
    rw [List.getElem?_eq_getElem hk0l] at e
    exact Option.some.inj e
  refine q pt lm v _ ms t ks[0] (g34.trans g48) (SqT.of Qb) (g48 _ _ hlm4) (fun m hm=>⟨(hms m hm).1.same g48,by rw [emk];exact (hms m hm).2⟩) (by omega) (by omega) hk0 (hv.mono fun _ _=>k8.seqT) ?_
  rw [emk,← ekn0];exact ht
end
end K22
namespace K22
open PySem L2 TM TT K9 K11
structure Nd where
  a:Addr
  kd:Str
  lv:Nat
  row:Option PNx
  mr:Int
  cl:Addr
  ch:List Nat
def PZ:Option PNx→V
  | none=>.non
  | some r=>.ref r.1
def ndV (n:Nd):List V:=[.str n.kd,.int (n.lv:Int),PZ n.row,.int n.mr,.ref n.cl]
abbrev NI (bs:List Nat):List V:=bs.map fun (b:Nat)=>V.int (b:Int)
abbrev NR (ns:List Nd):List V:=ns.map fun n=>V.ref n.a
structure GH (H1 H:Hp) (ln lb:Addr) (ns:List Nd) (bare:List Nat):Prop where
  sm:Same H1 H
  hn:H ln=some (.lst (NR ns))
  hb:H lb=some (.lst (NI bare))
  ha:∀ (i:Nat) n,ns[i]?=some n→H n.a=some (.lst (ndV n))
  hc:∀ (i:Nat) n,ns[i]?=some n→H n.cl=some (.lst (NI n.ch))
  dd:∀ (i j:Nat) n m,ns[i]?=some n→ns[j]?=some m→i≠j→n.a≠m.a∧n.cl≠m.cl
  dc:∀ (i j:Nat) n m,ns[i]?=some n→ns[j]?=some m→n.a≠m.cl
  dl:∀ (i:Nat) n,ns[i]?=some n→n.a≠ln∧n.a≠lb∧n.cl≠ln∧n.cl≠lb
  fr:∀ (i:Nat) n,ns[i]?=some n→H1 n.a=none∧H1 n.cl=none
  ln1:H1 ln=none
  lb1:H1 lb=none
  lnb:ln≠lb
theorem Jf {α:Type} {l:List α} {i:Nat} {x:α} (h:l[i]?=some x):l.set i x=l:=by
  apply List.ext_getElem?
  intro j
  rw [List.getElem?_set]
  by_cases e:i=j
  · subst e
    rw [if_pos rfl,if_pos (List.getElem?_eq_some_iff.mp h).1,h]
  · rw [if_neg e]
theorem QD {α:Type} {l:List α} {i j:Nat} {x y:α} (h:(l.set i x)[j]?=some y):(j=i∧y=x∧i < l.length)∨(j≠i∧l[j]?=some y):=by
  rw [List.getElem?_set] at h
  by_cases e:i=j
  · subst e
    rw [if_pos rfl] at h
    by_cases hl:i < l.length
    · rw [if_pos hl] at h
      exact .inl ⟨rfl,(Option.some.inj h).symm,hl⟩
    · rw [if_neg hl] at h;cases h
  · rw [if_neg e] at h
    exact .inr ⟨Ne.symm e,h⟩
theorem QV {α:Type} {l:List α} {j:Nat} {x y:α} (h:(l ++ [x])[j]?=some y):(j=l.length∧y=x)∨(j < l.length∧l[j]?=some y):=by
  by_cases hj:j < l.length
  · rw [List.getElem?_append_left hj] at h
    exact .inr ⟨hj,h⟩
  · rw [List.getElem?_append_right (by omega)] at h
    have hz:j - l.length=0:=by
      have:=(List.getElem?_eq_some_iff.mp h).1
      simp at this
      omega
    rw [hz] at h
    exact .inl ⟨by omega,by simpa using h.symm⟩
section
variable {H1 H:Hp} {ln lb:Addr} {ns:List Nd} {bare:List Nat}
theorem GH.same {H':Hp} (g:Same H H') (h:GH H1 H ln lb ns bare):GH H1 H' ln lb ns bare :=
  ⟨h.sm.trans g,g _ _ h.hn,g _ _ h.hb,fun i n e=>g _ _ (h.ha i n e),fun i n e=>g _ _ (h.hc i n e),h.dd,h.dc,h.dl,h.fr,h.ln1,h.lb1,h.lnb⟩
theorem GH.setA (h:GH H1 H ln lb ns bare) {i:Nat} {n:Nd} (e:ns[i]?=some n) (n':Nd) (ea:n'.a=n.a) (ec:n'.cl=n.cl) (eh:n'.ch=n.ch):GH H1 (upd H n.a (.lst (ndV n'))) ln lb (ns.set i n') bare:=by
  obtain ⟨d1,d2,d3,d4⟩:=h.dl i n e
  refine ⟨fun x u z=>?_,?_,?_,fun j m hm=>?_,fun j m hm=>?_,fun j k m p hm hp hjk=>?_,fun j k m p hm hp=>?_,fun j m hm=>?_,fun j m hm=>?_,h.ln1,h.lb1,h.lnb⟩
  · rw [Qg (Qh z (h.fr i n e).1)];exact h.sm _ _ z
  · rw [Qg (Ne.symm d1),h.hn]
    congr 2
    unfold NR
    rw [List.map_set,ea]
    refine (Jf (by rw [List.getElem?_map,e];rfl)).symm
  · rw [Qg (Ne.symm d2)];exact h.hb
  · rcases QD hm with ⟨rfl,rfl,_⟩ | ⟨hj,hm2⟩
    · rw [ea];exact Qb
    · rw [Qg (h.dd j i m n hm2 e hj).1];exact h.ha j m hm2
  · rcases QD hm with ⟨rfl,rfl,_⟩ | ⟨hj,hm2⟩
    · rw [ec,eh,Qg (Ne.symm (h.dc j j n n e e))];exact h.hc _ n e
    · rw [Qg (Ne.symm (h.dc i j n m e hm2))];exact h.hc j m hm2
  · rcases QD hm with ⟨rfl,rfl,_⟩ | ⟨hj,hm2⟩
    · rcases QD hp with ⟨rfl,rfl,_⟩ | ⟨hk,hp⟩
      · exact absurd rfl hjk
      · rw [ea,ec];exact h.dd _ k n p e hp hjk
    · rcases QD hp with ⟨rfl,rfl,_⟩ | ⟨hk,hp⟩
      · rw [ea,ec];exact h.dd j _ m n hm2 e hjk
      · exact h.dd j k m p hm2 hp hjk
  · rcases QD hm with ⟨rfl,rfl,_⟩ | ⟨hj,hm2⟩
    · rcases QD hp with ⟨rfl,rfl,_⟩ | ⟨hk,hp⟩
      · rw [ea,ec];exact h.dc _ _ n n e e
      · rw [ea];exact h.dc _ k n p e hp
    · rcases QD hp with ⟨rfl,rfl,_⟩ | ⟨hk,hp⟩
      · rw [ec];exact h.dc j _ m n hm2 e
      · exact h.dc j k m p hm2 hp
  · rcases QD hm with ⟨rfl,rfl,_⟩ | ⟨hj,hm2⟩
    · rw [ea,ec];exact h.dl _ n e
    · exact h.dl j m hm2
  · rcases QD hm with ⟨rfl,rfl,_⟩ | ⟨hj,hm2⟩
    · rw [ea,ec];exact h.fr _ n e
    · exact h.fr j m hm2
theorem GH.setC (h:GH H1 H ln lb ns bare) {i:Nat} {n:Nd} (e:ns[i]?=some n) (ch:List Nat):GH H1 (upd H n.cl (.lst (NI ch))) ln lb (ns.set i { n with ch:=ch }) bare:=by
  obtain ⟨d1,d2,d3,d4⟩:=h.dl i n e
  refine ⟨fun x u z=>?_,?_,?_,fun j m hm=>?_,fun j m hm=>?_,fun j k m p hm hp hjk=>?_,fun j k m p hm hp=>?_,fun j m hm=>?_,fun j m hm=>?_,h.ln1,h.lb1,h.lnb⟩
  · rw [Qg (Qh z (h.fr i n e).2)];exact h.sm _ _ z
  · rw [Qg (Ne.symm d3),h.hn]
    congr 2
    unfold NR
    rw [List.map_set]
    refine (Jf (by rw [List.getElem?_map,e];rfl)).symm
  · rw [Qg (Ne.symm d4)];exact h.hb
  · rcases QD hm with ⟨rfl,rfl,_⟩ | ⟨hj,hm2⟩
    · rw [Qg (h.dc _ _ n n e e)];exact h.ha _ n e
    · rw [Qg (h.dc j i m n hm2 e)];exact h.ha j m hm2
  · rcases QD hm with ⟨rfl,rfl,_⟩ | ⟨hj,hm2⟩
    · exact Qb
    · rw [Qg (h.dd j i m n hm2 e hj).2];exact h.hc j m hm2
  · rcases QD hm with ⟨rfl,rfl,_⟩ | ⟨hj,hm2⟩
    · rcases QD hp with ⟨rfl,rfl,_⟩ | ⟨hk,hp⟩
      · exact absurd rfl hjk
      · exact h.dd _ k n p e hp hjk
    · rcases QD hp with ⟨rfl,rfl,_⟩ | ⟨hk,hp⟩
      · exact h.dd j _ m n hm2 e hjk
      · exact h.dd j k m p hm2 hp hjk
  · rcases QD hm with ⟨rfl,rfl,_⟩ | ⟨hj,hm2⟩
    · rcases QD hp with ⟨rfl,rfl,_⟩ | ⟨hk,hp⟩
      · exact h.dc _ _ n n e e
      · exact h.dc _ k n p e hp
    · rcases QD hp with ⟨rfl,rfl,_⟩ | ⟨hk,hp⟩
      · exact h.dc j _ m n hm2 e
      · exact h.dc j k m p hm2 hp
  · rcases QD hm with ⟨rfl,rfl,_⟩ | ⟨hj,hm2⟩
    · exact h.dl _ n e
    · exact h.dl j m hm2
  · rcases QD hm with ⟨rfl,rfl,_⟩ | ⟨hj,hm2⟩
    · exact h.fr _ n e
    · exact h.fr j m hm2
theorem GH.setB (h:GH H1 H ln lb ns bare) (bare':List Nat):GH H1 (upd H lb (.lst (NI bare'))) ln lb ns bare':=by
  refine ⟨fun x u z=>?_,?_,Qb,fun i n e=>?_,fun i n e=>?_,h.dd,h.dc,h.dl,h.fr,h.ln1,h.lb1,h.lnb⟩
  · rw [Qg (Qh z h.lb1)];exact h.sm _ _ z
  · rw [Qg h.lnb];exact h.hn
  · rw [Qg (h.dl i n e).2.1];exact h.ha i n e
  · rw [Qg (h.dl i n e).2.2.2];exact h.hc i n e
theorem GH.add {H2:Hp} (h:GH H1 H ln lb ns bare) (g:Same H H2) (m:Nd) (ma:H m.a=none) (mc:H m.cl=none) (mm:m.a≠m.cl) (h1:H2 m.a=some (.lst (ndV m))) (h2:H2 m.cl=some (.lst (NI m.ch))):GH H1 (upd H2 ln (.lst (NR ns ++ [.ref m.a]))) ln lb (ns ++ [m]) bare:=by
  have k:=h.same g
  have neA:∀ {x:Addr} {o:HO},H x=some o→x≠m.a:=fun e z=>by rw [z,ma] at e;cases e
  have neC:∀ {x:Addr} {o:HO},H x=some o→x≠m.cl:=fun e z=>by rw [z,mc] at e;cases e
  have ln_a:=neA h.hn
  have ln_c:=neC h.hn
  have lb_a:=neA h.hb
  have lb_c:=neC h.hb
  refine ⟨fun x u z=>?_,by rw [Qb];simp,?_,fun j n e=>?_,fun j n e=>?_,fun i j n p hn hp hij=>?_,fun i j n p hn hp=>?_,fun j n e=>?_,fun j n e=>?_,h.ln1,h.lb1,h.lnb⟩
  · rw [Qg (Qh z h.ln1)];exact k.sm _ _ z
  · rw [Qg (Ne.symm h.lnb)];exact k.hb
  · rcases QV e with ⟨_,rfl⟩ | ⟨_,e⟩
    · rw [Qg (Ne.symm ln_a)];exact h1
    · rw [Qg (h.dl j n e).1];exact k.ha j n e
  · rcases QV e with ⟨_,rfl⟩ | ⟨_,e⟩
    · rw [Qg (Ne.symm ln_c)];exact h2
    · rw [Qg (h.dl j n e).2.2.1];exact k.hc j n e
  · rcases QV hn with ⟨hi,rfl⟩ | ⟨hi,hn2⟩
    · rcases QV hp with ⟨hj,rfl⟩ | ⟨hj,hp⟩
      · omega
      · exact ⟨Ne.symm (neA (h.ha j p hp)),Ne.symm (neC (h.hc j p hp))⟩
    · rcases QV hp with ⟨hj,rfl⟩ | ⟨hj,hp⟩
      · exact ⟨neA (h.ha i n hn2),neC (h.hc i n hn2)⟩
      · exact h.dd i j n p hn2 hp hij
  · rcases QV hn with ⟨hi,rfl⟩ | ⟨hi,hn2⟩
    · rcases QV hp with ⟨hj,rfl⟩ | ⟨hj,hp⟩
      · exact mm
      · exact Ne.symm (neA (h.hc j p hp))
    · rcases QV hp with ⟨hj,rfl⟩ | ⟨hj,hp⟩
      · exact neC (h.ha i n hn2)
      · exact h.dc i j n p hn2 hp
  · rcases QV e with ⟨_,rfl⟩ | ⟨_,e⟩
    · exact ⟨Ne.symm ln_a,Ne.symm lb_a,Ne.symm ln_c,Ne.symm lb_c⟩
    · exact h.dl j n e
  · rcases QV e with ⟨_,rfl⟩ | ⟨_,e⟩
    · exact ⟨h.sm.free ma,h.sm.free mc⟩
    · exact h.fr j n e
end
abbrev sg (ns:List Nd):List (Str × Nat):=ns.map fun n=>(n.kd,n.lv)
def Kid (s:List (Str × Nat)) (i:Nat) (n:Nd) (r:PNx):Prop:=∀ (j c:Nat),n.ch[j]?=some c→i < c∧∃ k,s[c]?=some (k,n.lv + 1)∧r.2.2.2[j]?=some k
structure NOk (ks:List KdT) (top:Nat) (s:List (Str × Nat)) (i:Nat) (n:Nd) (w:Nat):Prop where
  l1:1≤n.lv
  l2:n.lv≤top
  kd:n.kd ∈ ks.map fun k=>k.2.1
  no:n.row=none→n.ch=[]
  ro:∀ r,n.row=some r→r ∈ Qs ks n.kd∧n.ch.length=w∧Kid s i n r
def wOf (n:Nd):Nat:=match n.row with
  | none=>0
  | some r=>r.2.2.2.length
def AllOk (ks:List KdT) (top:Nat) (ns:List Nd):Prop:=∀ (i:Nat) n,ns[i]?=some n→NOk ks top (sg ns) i n (wOf n)
theorem Kid.mono {s s':List (Str × Nat)} {i:Nat} {n:Nd} {r:PNx} (h:Kid s i n r) (k:∀ (c:Nat) x,s[c]?=some x→s'[c]?=some x):Kid s' i n r:=fun j c e=>by
  obtain ⟨h1,kd,h2,h3⟩:=h j c e
  exact ⟨h1,kd,k _ _ h2,h3⟩
theorem NOk.mono {ks:List KdT} {top:Nat} {s s':List (Str × Nat)} {i:Nat} {n:Nd} {w:Nat} (h:NOk ks top s i n w) (k:∀ (c:Nat) x,s[c]?=some x→s'[c]?=some x):NOk ks top s' i n w :=
  ⟨h.l1,h.l2,h.kd,h.no,fun r e=>⟨(h.ro r e).1,(h.ro r e).2.1,(h.ro r e).2.2.mono k⟩⟩
theorem Wr {ns:List Nd} {i:Nat} {n n':Nd} (e:ns[i]?=some n) (e1:n'.kd=n.kd) (e2:n'.lv=n.lv):sg (ns.set i n')=sg ns:=by
  unfold sg
  rw [List.map_set,e1,e2]
  exact Jf (by rw [List.getElem?_map,e];rfl)
theorem Nu {ns:List Nd} {m:Nd} (c:Nat) (x:Str × Nat) (h:(sg ns)[c]?=some x):(sg (ns ++ [m]))[c]?=some x:=by
  unfold sg at h ⊢
  rw [List.map_append,List.getElem?_append_left (List.getElem?_eq_some_iff.mp h).1]
  exact h
structure BOk (ns:List Nd) (bare:List Nat):Prop where
  nd:bare.Nodup
  no:∀ b ∈ bare,∃ n,ns[b]?=some n∧n.row=none
  bl:bare.length≤ns.length
end K22
namespace K22
open PySem L2 TM TT K9 K11
theorem AllOk.setM {ks:List KdT} {top:Nat} {ns:List Nd} {i:Nat} {n:Nd} (h:AllOk ks top ns) (e:ns[i]?=some n) (x:Int):AllOk ks top (ns.set i { n with mr:=x }):=by
  intro j m hm
  rw [Wr (n':={ n with mr:=x }) e rfl rfl]
  rcases QD hm with ⟨rfl,rfl,_⟩ | ⟨hj,hm⟩
  · have k:=h j n e
    exact ⟨k.l1,k.l2,k.kd,k.no,k.ro⟩
  · exact h j m hm
theorem BOk.setM {ns:List Nd} {bare:List Nat} {i:Nat} {n:Nd} (h:BOk ns bare) (e:ns[i]?=some n) (x:Int):BOk (ns.set i { n with mr:=x }) bare:=by
  refine ⟨h.nd,fun b hb=>?_,by rw [List.length_set];exact h.bl⟩
  obtain ⟨m,hm,hr⟩:=h.no b hb
  by_cases z:i=b
  · subst z
    rw [e] at hm
    obtain rfl:=Option.some.inj hm
    refine ⟨{ n with mr:=x },?_,hr⟩
    rw [List.getElem?_set,if_pos rfl,if_pos (List.getElem?_eq_some_iff.mp e).1]
  · exact ⟨m,by rw [List.getElem?_set,if_neg z];exact hm,hr⟩
theorem Y2 {ns:List Nd} {i:Nat} {n n':Nd} {k:Str} (e:ns[i]?=some n) (ek:n'.kd=n.kd) (h:∃ m,ns[0]?=some m∧m.kd=k):∃ m,(ns.set i n')[0]?=some m∧m.kd=k:=by
  obtain ⟨m,hm,hk⟩:=h
  by_cases z:i=0
  · subst z
    rw [e] at hm
    obtain rfl:=Option.some.inj hm
    refine ⟨n',?_,ek.trans hk⟩
    rw [List.getElem?_set,if_pos rfl,if_pos (List.getElem?_eq_some_iff.mp e).1]
  · exact ⟨m,by rw [List.getElem?_set,if_neg z];exact hm,hk⟩
theorem Uv {ns:List Nd} {i:Nat} {n n':Nd} (e:ns[i]?=some n):(ns.set i n')[i]?=some n':=by
  rw [List.getElem?_set,if_pos rfl,if_pos (List.getElem?_eq_some_iff.mp e).1]
structure Mid (ks:List KdT) (top:Nat) (kn0:Str) (spot:Nat) (kd:Str) (lv:Nat) (r:PNx) (L j:Nat) (ns:List Nd) (bare:List Nat):Prop where
  len:ns.length=L + j
  sp:∃ n,ns[spot]?=some n∧n.row=some r∧n.kd=kd∧n.lv=lv∧NOk ks top (sg ns) spot n j
  ot:∀ (i:Nat) m,i≠spot→ns[i]?=some m→NOk ks top (sg ns) i m (wOf m)
  bk:BOk ns bare
  k0:∃ m,ns[0]?=some m∧m.kd=kn0
  sl:spot < L
variable {ks:List KdT} {top:Nat} {kn0:Str} {spot:Nat} {kd:Str} {lv:Nat} {r:PNx} {L j:Nat} {ns:List Nd} {bare:List Nat}
theorem Mid.start {n:Nd} (h:AllOk ks top ns) (b:BOk ns bare) (e:ns[spot]?=some n) (hr:n.row=none) (hb:spot ∉ bare) (hk:r ∈ Qs ks n.kd) (h0:∃ m,ns[0]?=some m∧m.kd=kn0):Mid ks top kn0 spot n.kd n.lv r ns.length 0 (ns.set spot { n with row:=some r }) bare:=by
  have k:=h spot n e
  have esg:sg (ns.set spot { n with row:=some r })=sg ns:=Wr e rfl rfl
  refine ⟨by rw [List.length_set];rfl,⟨_,Uv e,rfl,rfl,rfl,?_⟩,fun i m hi hm=>?_,⟨b.nd,fun x hx=>?_,by rw [List.length_set];exact b.bl⟩,Y2 e rfl h0,(List.getElem?_eq_some_iff.mp e).1⟩
  · rw [esg]
    refine ⟨k.l1,k.l2,k.kd,fun z=>(nomatch z),fun r' e'=>?_⟩
    obtain rfl:r=r':=Option.some.inj e'
    have hc:=k.no hr
    refine ⟨hk,by show n.ch.length=0;rw [hc];rfl,fun a c hac=>?_⟩
    have hac':n.ch[a]?=some c:=hac
    rw [hc] at hac'
    simp at hac'
  · rw [esg]
    rcases QD hm with ⟨z,_,_⟩ | ⟨_,hm⟩
    · exact absurd z hi
    · exact h i m hm
  · obtain ⟨m,hm,hmr⟩:=b.no x hx
    have hxs:spot≠x:=fun z=>hb (z ▸ hx)
    exact ⟨m,by rw [List.getElem?_set,if_neg hxs];exact hm,hmr⟩
theorem Mid.next {n m:Nd} {k:Str} (h:Mid ks top kn0 spot kd lv r L j ns bare) (e:ns[spot]?=some n) (ek:r.2.2.2[j]?=some k) (hl:lv + 1≤top) (hkk:k ∈ ks.map fun k=>k.2.1) (m1:m.kd=k) (m2:m.lv=lv + 1) (m3:m.row=none) (m4:m.ch=[]) :
    Mid ks top kn0 spot kd lv r L (j + 1) (ns.set spot { n with ch:=n.ch ++ [L + j] } ++ [m]) (bare ++ [L + j]):=by
  obtain ⟨n0,e0,hr,hkd,hlv,hn⟩:=h.sp
  rw [e] at e0
  obtain rfl:=Option.some.inj e0
  have hsl:=h.sl
  have hlen:=h.len
  have esg:sg (ns.set spot { n with ch:=n.ch ++ [L + j] })=sg ns:=Wr e rfl rfl
  have mono:∀ (c:Nat) x,(sg ns)[c]?=some x→(sg (ns.set spot { n with ch:=n.ch ++ [L + j] } ++ [m]))[c]?=some x:=fun c x hx=>Nu c x (by rw [esg];exact hx)
  have hnew:(sg (ns.set spot { n with ch:=n.ch ++ [L + j] } ++ [m]))[L + j]?=some (k,lv + 1):=by
    unfold sg
    rw [List.map_append,List.getElem?_append_right (by rw [List.length_map,List.length_set];omega),List.length_map,List.length_set,hlen,Nat.sub_self]
    show some (m.kd,m.lv)=_
    rw [m1,m2]
  have hspl:spot < (ns.set spot { n with ch:=n.ch ++ [L + j] }).length:=by rw [List.length_set];omega
  refine ⟨by rw [List.length_append,List.length_set,List.length_singleton];omega,⟨{ n with ch:=n.ch ++ [L + j] },?_,hr,hkd,hlv,?_⟩,fun i m' hi hm'=>?_,⟨?_,fun x hx=>?_,by rw [List.length_append,List.length_append,List.length_set,List.length_singleton,List.length_singleton];exact Nat.add_le_add_right h.bk.bl 1⟩,?_,hsl⟩
  · rw [List.getElem?_append_left hspl];exact Uv e
  · refine ⟨hn.l1,hn.l2,hn.kd,fun z=>?_,fun r' e'=>?_⟩
    · have z':n.row=none:=z
      rw [hr] at z';cases z'
    · have e'':n.row=some r':=e'
      obtain ⟨h1,h2,h3⟩:=hn.ro r' e''
      have er:r=r':=by rw [hr] at e'';exact Option.some.inj e''
      refine ⟨h1,by rw [List.length_append,List.length_singleton,h2],fun a c hac=>?_⟩
      rcases QV hac with ⟨ha,hc⟩ | ⟨ha,hac⟩
      · rw [hc,ha,h2]
        exact ⟨by omega,k,by rw [hnew];show some (k,lv + 1)=some (k,n.lv + 1);rw [hlv],by rw [← er];exact ek⟩
      · obtain ⟨i1,kk,i2,i3⟩:=h3 a c hac
        exact ⟨i1,kk,mono _ _ i2,i3⟩
  · rcases QV hm' with ⟨hi2,rfl⟩ | ⟨hi2,hm'⟩
    · refine ⟨by omega,by omega,by rw [m1];exact hkk,fun _=>m4,fun r' e'=>?_⟩
      rw [m3] at e';cases e'
    · rcases QD hm' with ⟨z,_,_⟩ | ⟨_,hm'⟩
      · exact absurd z hi
      · exact (h.ot i m' hi hm').mono mono
  · rw [List.nodup_append]
    refine ⟨h.bk.nd,by simp,fun a ha b hb=>?_⟩
    have:b=L + j:=by simpa using hb
    obtain ⟨q,hq,_⟩:=h.bk.no a ha
    have:=(List.getElem?_eq_some_iff.mp hq).1
    omega
  · rcases List.mem_append.mp hx with hx | hx
    · obtain ⟨q,hq,hqr⟩:=h.bk.no x hx
      have hxl:=(List.getElem?_eq_some_iff.mp hq).1
      have hxs:spot≠x:=fun z=>by
        subst z
        rw [e] at hq
        obtain rfl:=Option.some.inj hq
        rw [hr] at hqr;cases hqr
      refine ⟨q,?_,hqr⟩
      rw [List.getElem?_append_left (by rw [List.length_set];exact hxl),List.getElem?_set,if_neg hxs]
      exact hq
    · have hx:x=L + j:=by simpa using hx
      refine ⟨m,?_,m3⟩
      rw [hx,List.getElem?_append_right (by rw [List.length_set];omega),List.length_set,hlen,Nat.sub_self]
      rfl
  · obtain ⟨q,hq,hk⟩:=Y2 (n':={ n with ch:=n.ch ++ [L + j] }) e rfl h.k0
    exact ⟨q,by rw [List.getElem?_append_left (List.getElem?_eq_some_iff.mp hq).1];exact hq,hk⟩
theorem Mid.done (h:Mid ks top kn0 spot kd lv r L r.2.2.2.length ns bare):AllOk ks top ns:=by
  intro i m hm
  by_cases z:i=spot
  · subst z
    obtain ⟨n,e,hr,_,_,hn⟩:=h.sp
    rw [e] at hm
    obtain rfl:=Option.some.inj hm
    have:wOf n=r.2.2.2.length:=by unfold wOf;rw [hr]
    rw [this];exact hn
  · exact h.ot i m z hm
def ZH (r:PNx):PyData:=.tuple [.str r.2.1,.tuple (r.2.2.2.map .str)]
theorem JY {K:PySem.W.Frag} {H:Hp}:∀ {rs:List PNx},(∀ t ∈ rs,RowAt K H t)→RdAll K H (rs.map fun t=>V.ref t.1) (rs.map ZH)
  | [],_=>.nil
  | t :: r,h=>.cons (.tup (h t List.mem_cons_self).1 (.cons (.str _) (.cons (.tup (h t List.mem_cons_self).2 (YD _)) .nil))) (JY fun u hu=>h u (List.mem_cons_of_mem _ hu))
theorem UI:∀ {rs:List PNx},(∀ r ∈ rs,PyData.strOk r.2.1=true)→(∀ r ∈ rs,∀ x ∈ r.2.2.2,PyData.strOk x=true)→PyData.canLayAll0 (rs.map ZH)=true
  | [],_,_=>by simp [PyData.canLayAll0]
  | r :: rs,h1,h2=>by
    simp only [List.map_cons,PyData.canLayAll0,ZH,PyData.canLay0,h1 r List.mem_cons_self,Z3 _ (h2 r List.mem_cons_self),Bool.and_self,Bool.true_and]
    exact UI (fun u hu=>h1 u (List.mem_cons_of_mem _ hu)) fun u hu=>h2 u (List.mem_cons_of_mem _ hu)
theorem XG (ds:List PyData):PyData.eqv (.list ds) (.list [])=ds.isEmpty:=by
  cases ds <;> simp [PyData.eqv,PyData.eqvAll]
theorem XY (ds:List PyData):PyData.eqv (.tuple ds) (.tuple [])=ds.isEmpty:=by
  cases ds <;> simp [PyData.eqv,PyData.eqvAll]
theorem O3 (bs:List Nat):NI bs=(bs.map fun (b:Nat)=>(b:Int)).map V.int:=by
  unfold NI;rw [List.map_map];rfl
theorem Jz {α β:Type} (f:α→β):∀ (l:List α) (k:Nat),(l.map f).eraseIdx k=(l.eraseIdx k).map f
  | [],k=>by simp
  | x :: r,0=>by simp
  | x :: r,k + 1=>by
    simp only [List.map_cons,List.eraseIdx_cons_succ]
    rw [Jz f r k]
theorem MB {k n:Nat} (h:k < n):seqIndex? ((k:Nat):Int) n=some k:=by
  have:=PySem.StrLaws.seqIndex_nonneg (i:=((k:Nat):Int)) (n:=n) (by omega) (by omega)
  rwa [Int.toNat_natCast] at this
theorem Zr {α:Type} {x y:α} {i:Nat} (h:[x][i]?=some y):i=0∧y=x:=by
  cases i with
  | zero=>exact ⟨rfl,(Option.some.inj h).symm⟩
  | succ n=>simp at h
end K22
namespace K22
open PySem L2 TM TT K9 K11
def Xo (K:PySem.W.Frag):Sp:=fun vs H Q _=>∃ (lw lc:Addr) (ks:List KdT) (cs:List Int) (top:Nat) (k0:KdT),vs=[.ref lw,.ref lc,.int (top:Int)]∧WoodAt K H lw ks∧WF ks∧ks[0]?=some k0∧SqL K H lc (cs.map V.int)∧cs.length≤60∧1≤top∧top≤40 ∧
  ∀ (ln lb:Addr) (H1 H':Hp) (ns:List Nd) (bare:List Nat),Same H H1→GH H1 H' ln lb ns bare→AllOk ks top ns→0 < ns.length→ns.length≤200→(∃ n,ns[0]?=some n∧n.kd=k0.2.1)→Q (.ref ln) H'
abbrev Ol:List Str:=["_law_wood_here", "_law_cells", "_law_top", "_law_rows", "_law_nodes", "_law_bare", "_law_cell", "_law_number", "_law_spot", "_law_full", "_law_kind"]
theorem Zz {ns:List Nd} {i:Nat} {n:Nd} (e:ns[i]?=some n):atI (NR ns) ((i:Nat):Int)=some (.ref n.a):=Qv (by rw [List.getElem?_map,e];rfl)
theorem UL {ks:List KdT} {k:Str} (h:k ∈ ks.map fun k=>k.2.1) (ok:WoodOk ks):∃ kd ∈ ks,kd.2.1=k∧Qs ks k=kd.2.2.2∧ks.find? (fun x=>decide (x.2.1=k))=some kd:=by
  obtain ⟨kd,hkd,rfl⟩:=List.mem_map.mp h
  obtain ⟨e1,e2⟩:=Jb ok hkd
  exact ⟨kd,hkd,rfl,e1,e2⟩
theorem VH {l:List Nat} {i:Nat} {x b:Nat} (hn:l.Nodup) (hx:l[i]?=some x) (hb:b ∈ l.eraseIdx i):b ∈ l∧b≠x:=by
  refine ⟨List.mem_of_mem_eraseIdx hb,fun z=>?_⟩
  subst z
  obtain ⟨j,hj,e⟩:=List.getElem_of_mem hb
  rw [List.getElem_eraseIdx] at e
  obtain ⟨hi,ei⟩:=List.getElem?_eq_some_iff.mp hx
  split at e
  · rename_i h
    have:=(List.getElem_inj hn).mp (e.trans ei.symm)
    omega
  · rename_i h
    have:=(List.getElem_inj hn).mp (e.trans ei.symm)
    omega
section
variable {P:Program} {w:World} {K:PySem.W.Frag} {mg:Str→Option Value} {base:Heap} {f:Addr} {fd:FuncData}
theorem Zb:FnScope Ol ["_law_wood_here", "_law_cells", "_law_top"] (defScope U5):=⟨rfl,rfl,rfl,by decide +kernel,rfl,by decide +kernel,by decide +kernel⟩
theorem GN (F:Fun K "_law_grown" "_law_grown" U5 f fd) (G:Gm mg) (RM:Fn P w K mg base 1 "_law_mixed" ["_law_cell", "_law_k"] Zi) (RK:Fn P w K mg base 2 "_law_mark" ["_law_cell", "_law_number"] WO):FnOk P w K mg base CX0 3 f fd ["_law_wood_here", "_law_cells", "_law_top"] (Xo K):=by
  refine F.ok Zb (fun vs H Q E h=>?_) (fun cdv A outer s H vs Q E hr h=>?_)
  · obtain ⟨lw,lc,ks,cs,top,k0,rfl,_⟩:=h
    rfl
  obtain ⟨lw,lc,ks,cs,top,k0,rfl,hW,hWF,hk0,hlc,hcs,ht1,ht20,q⟩:=h
  have room:∀ m:Nat,m≤64→(A.deeper (PyProof.Rows.envOfC "_law_grown" (defScope U5) s.heap.objs.size f cdv)).units + m < cLine:=fun m hm=>by have:=hr.units;omega
  refine ⟨_,(Qe (Qn (i:=3) Zb.nd rfl (Or.inl rfl) (QB (Zg rfl) rfl G.dct PyProof.Rows.boot_dict (Qa (pv 0) Qc)))
    (Qe (Qn (i:=4) Zb.nd rfl (Or.inr rfl) (QE (Qa ((QE (Qa (Qj Ql (Qj Qk (pv 0) Qd (fun _ _=>rfl)) Qd (fun _ _=>rfl)) (Qa (Qd) (Qa (ZF) (Qa (Qd) (Qa (QE Qc) Qc))))))) Qc)))
    (Qe (Qn (i:=5) Zb.nd rfl (Or.inl rfl) (QE (Qa (Qd) Qc)))
    (Qe (QU PassesOwn.never rfl (QY (pv 1)) (Qu (i:=6) Zb.nd rfl (Or.inl rfl)) (Qe (Qn (i:=7) Zb.nd rfl (Or.inl rfl) (Qr RM hr (Qa (pv 6) (Qa (Qd) Qc))))
    (Qe (Qn (i:=8) Zb.nd rfl (Or.inr rfl) (Qm Qz (pv 7) (Qq Qo rfl G.len PySem.boot_len (Qa (pv 4) Qc))))
    (Qe (Qn (i:=9) Zb.nd rfl (Or.inl rfl) (QE Qc))
    (Qe (Z8 (QT (Qy Ji (pv 5) (QE Qc) (QA _)) (Qe (Qn (i:=8) Zb.nd rfl (Or.inr rfl) (ZB PySem.F.plainAttrs_list PySem.F.slot_list_pop PySem.F.type_list_pop LQ (pv 5) (Qa (GU (Qj Qk (QE (Qa (Qm Qz (Qm QZ (pv 7) Qd) (Qq Qo rfl G.len PySem.boot_len (Qa (pv 5) Qc))) (Qa (Qm ZO (Qq Qo rfl G.len PySem.boot_len (Qa (pv 5) Qc)) Qd) Qc))) (Qm Qz (pv 7) Qd) (fun _ _=>rfl))) Qc)))
    (Qi (ZC (i:=9) (CompG.many (xs:=["_law_row"]) (caps:=["_law_nodes", "_law_spot", "_law_top"]) (cap:=[4,8,2]) (cs:=[_,_,_]) rfl rfl (by decide +kernel) (by decide +kernel) (by decide +kernel) (by decide +kernel) (by decide +kernel) (by decide +kernel) rfl rfl rfl) rfl (QY (Zy (ZL hr) (pv 3) (Qj Qk (Qj Qk (pv 4) (pv 8) (fun _ _=>rfl)) Qd (fun _ _=>rfl)) (fun _ _=>rfl))) (Zk (CompG.many (xs:=["_law_row"]) (caps:=["_law_nodes", "_law_spot", "_law_top"]) (cap:=[4,8,2]) (cs:=[_,_,_]) rfl rfl (by decide +kernel) (by decide +kernel) (by decide +kernel) (by decide +kernel) (by decide +kernel) (by decide +kernel) rfl rfl rfl))
          (fun _ _ _ _=>WG (PW.pt (pw_and (Qy (r:=Nr K (A.deeper (PyProof.Rows.envOfC "_law_grown" (defScope U5) s.heap.objs.size f cdv)) true) Ji (Qj (r:=Gr K) Ql (pv 0) Qd (fun _ _=>rfl)) (QJ Qc) (QA _)) (pw_and1 (Qy GJ (Qj (r:=Jn K) Qk (Qj (r:=Jn K) Qk (pv 1) (pv 2) (fun _ _=>rfl)) Qd (fun _ _=>rfl)) (pv 3) (QA _)))))) (fun _ _ _ _=>pv 0) Zb.nd rfl rfl))) Qx))
    (Qe (Z8 (QT (Qy Ji (pv 9) (QE Qc) (QA _)) (Qe (Yu (Qj Qk (pv 9) (Qm Qz (Qm QZ (pv 7) Qd) (Qq Qo rfl G.len PySem.boot_len (Qa (pv 9) Qc))) (fun _ _=>rfl)) (Xj (Qj Qk (pv 4) (pv 8) (fun _ _=>rfl)) Qd YF))
    (Qi (QU PassesOwn.never rfl (YZ (Qj Ql (Qj Qk (Qj Qk (pv 4) (pv 8) (fun _ _=>rfl)) Qd (fun _ _=>rfl)) Qd (fun _ _=>rfl))) (Qu (i:=10) Zb.nd rfl (Or.inl rfl)) (Qe (Q2 (ZB PySem.F.plainAttrs_list PySem.F.slot_list_append PySem.F.type_list_append Q0 (Qj Qk (Qj Qk (pv 4) (pv 8) (fun _ _=>rfl)) Qd (fun _ _=>rfl)) (Qa (Qq Qo rfl G.len PySem.boot_len (Qa (pv 4) Qc)) Qc)))
    (Qe (Q2 (ZB PySem.F.plainAttrs_list PySem.F.slot_list_append PySem.F.type_list_append Q0 (pv 5) (Qa (Qq Qo rfl G.len PySem.boot_len (Qa (pv 4) Qc)) Qc)))
    (Qi (Q2 (ZB PySem.F.plainAttrs_list PySem.F.slot_list_append PySem.F.type_list_append Q0 (pv 4) (Qa ((QE (Qa (pv 10) (Qa (Qm QG (Qj Qk (Qj Qk (pv 4) (pv 8) (fun _ _=>rfl)) Qd (fun _ _=>rfl)) Qd) (Qa (ZF) (Qa (Qm ZO (Qm Qz (Qm QZ (pv 7) (Qm QG Qd (Qq Qo rfl G.len PySem.boot_len (Qa (pv 4) Qc)))) Qd) Qd) (Qa (QE Qc) Qc))))))) Qc))))))))) Qx))
    (Qi (Yu (Qr RK hr (Qa (pv 6) (Qa (pv 7) Qc))) (Xj (Qj Qk (pv 4) (pv 8) (fun _ _=>rfl)) Qd YF)))))))))
    (Qi (Qp (pv 4))))))),?_⟩
  have hk0m:k0 ∈ ks:=List.mem_of_getElem? hk0
  have hkp:=hWF.ne
  refine ⟨_,rfl,lw,wts ks,rfl,wdA hW,wdB hW,wdC hWF.ok,wdD hWF.ok,fun d hd=>?_⟩
  have k1:=Qf hd (.dK (wkv ks))
  have hW1:=hW.same k1
  have hd1:upd H d (.dK (wkv ks)) d=some (.dK (wkv ks)):=Qb
  have hlc1:=k1.seq hlc
  generalize upd H d (.dK (wkv ks))=H1 at k1 hW1 hd1 hlc1
  have hat0:atI (ks.map fun k=>V.ref k.1) 0=some (.ref k0.1):=Qv (j:=0) (by rw [List.getElem?_map,hk0];rfl)
  refine ⟨_,rfl,lw,_,0,_,rfl,rfl,hW1.1,hat0,k0.1,_,0,_,rfl,rfl,(hW1.2 k0 hk0m).1,rfl,(by show 0≤sizeLine;decide),fun l1 hl1=>⟨(by show 5≤sizeLine;decide),fun l2 hl2=>⟨(by show 1≤sizeLine;decide),fun ln hln=>⟨(by show 1≤sizeLine;decide),fun lb hlb=>?_⟩⟩⟩⟩
  have GH0:∃ ns:List Nd,GH H1 (upd (upd (upd (upd H1 l1 (.lst [])) l2 (.lst [.str k0.2.1,.int 1,.non,.int 0,.ref l1])) ln (.lst [.ref l2])) lb (.lst [.int 0])) ln lb ns [0]∧AllOk ks top ns∧BOk ns [0]∧ns.length=1∧∃ n,ns[0]?=some n∧n.kd=k0.2.1:=by
    have s1:=Qf hl1 (.lst [])
    have s2:=Qf hl2 (.lst [.str k0.2.1,.int 1,.non,.int 0,.ref l1])
    have s3:=Qf hln (.lst [.ref l2])
    have s4:=Qf hlb (.lst [.int 0])
    have h12:=Qh Qb hl2
    have h1n:=Qh (s2 _ _ Qb) hln
    have h2n:=Qh Qb hln
    have h1b:=Qh (s3 _ _ (s2 _ _ Qb)) hlb
    have h2b:=Qh (s3 _ _ Qb) hlb
    have hnb:=Qh Qb hlb
    have f2:=s1.free hl2
    have fn:=s1.free (s2.free hln)
    have fb:=s1.free (s2.free (s3.free hlb))
    refine ⟨[⟨l2,k0.2.1,1,none,0,l1,[]⟩],⟨s1.trans (s2.trans (s3.trans s4)),s4 _ _ Qb,Qb,fun i n e=>?_,fun i n e=>?_,fun i j n m e1 e2 hij=>?_,fun i j n m e1 e2=>?_,fun i n e=>?_,fun i n e=>?_,fn,fb,hnb⟩,fun i n e=>?_,⟨by simp,fun b hb=>?_,by show 1≤1;omega⟩,rfl,_,rfl,rfl⟩
    · obtain ⟨rfl,rfl⟩:=Zr e
      exact s4 _ _ (s3 _ _ Qb)
    · obtain ⟨rfl,rfl⟩:=Zr e
      exact s4 _ _ (s3 _ _ (s2 _ _ Qb))
    · have:=(Zr e1).1
      have:=(Zr e2).1
      omega
    · obtain ⟨rfl,rfl⟩:=Zr e1
      obtain ⟨rfl,rfl⟩:=Zr e2
      exact Ne.symm h12
    · obtain ⟨rfl,rfl⟩:=Zr e
      exact ⟨h2n,h2b,h1n,h1b⟩
    · obtain ⟨rfl,rfl⟩:=Zr e
      exact ⟨f2,hl1⟩
    · obtain ⟨rfl,rfl⟩:=Zr e
      exact ⟨Nat.le_refl _,ht1,List.mem_map.mpr ⟨k0,hk0m,rfl⟩,fun _=>rfl,fun r z=>(nomatch z)⟩
    · have:b=0:=by simpa using hb
      subst this
      exact ⟨_,rfl,rfl⟩
  obtain ⟨ns0,hG0,hA0,hB0,hL0,hF0⟩:=GH0
  generalize upd (upd (upd (upd H1 l1 (.lst [])) l2 (.lst [.str k0.2.1,.int 1,.non,.int 0,.ref l1])) ln (.lst [.ref l2])) lb (.lst [.int 0])=H2 at hG0
  refine ⟨_,rfl,lc,rfl,⟨_,hG0.sm.seq hlc1⟩,?_⟩
  refine YW (K:=K) (xs:=cs.map V.int) (fun i σ H'=>∃ (c6 c7 c8 c9 c10:Option V) (ns:List Nd) (bare:List Nat),σ=[some (.ref lw),some (.ref lc),some (.int (top:Int)),some (.ref d),some (.ref ln),some (.ref lb),c6,c7,c8,c9,c10]∧GH H1 H' ln lb ns bare∧AllOk ks top ns∧BOk ns bare∧0 < ns.length∧ns.length≤1 + 3 * i∧∃ n,ns[0]?=some n∧n.kd=k0.2.1)
    ⟨none,none,none,none,none,ns0,[0],rfl,hG0,hA0,hB0,by omega,by omega,hF0⟩ ?_ ?_ ?_
  · rintro i σ H' _ ⟨_,_,_,_,_,_,_,_,hG,_⟩
    exact hG.sm.seq hlc1
  · rintro i x σ H3 hx ⟨c6,c7,c8,c9,c10,ns,bare,rfl,hG,hA,hB,hL1,hL2,hF⟩
    obtain ⟨c,rfl⟩ : ∃ c:Int,x=.int c:=by
      obtain ⟨c,_,rfl⟩:=List.mem_map.mp (List.mem_of_getElem? hx)
      exact ⟨c,rfl⟩
    have hi:i < cs.length:=by
      have:=(List.getElem?_eq_some_iff.mp hx).1
      simpa using this
    have hnl:(NR ns).length=ns.length:=List.length_map ..
    have hbl:(NI bare).length=bare.length:=List.length_map ..
    refine ⟨_,rfl,c,5,rfl,by decide,by decide,fun nu n0 n1=>?_⟩
    refine ⟨_,rfl,_,rfl,ln,_,rfl,.inl (SqL.of hG.hn),_,_,rfl,rfl,(by rw [hnl];omega),?_⟩
    obtain ⟨sp0,hsp0,hsp1⟩ : ∃ sp0:Nat,nu % (((NR ns).length:Nat):Int)=(sp0:Int)∧sp0 < ns.length:=by
      have a0:0≤nu % (((NR ns).length:Nat):Int):=Int.emod_nonneg _ (by rw [hnl];omega)
      have a1:nu % (((NR ns).length:Nat):Int) < (((NR ns).length:Nat):Int):=Int.emod_lt_of_pos _ (by rw [hnl];omega)
      exact ⟨(nu % (((NR ns).length:Nat):Int)).toNat,by omega,by omega⟩
    refine ⟨(by show 0≤sizeLine;decide),fun lf hlf=>?_⟩
    have k4:=Qf hlf (.lst [])
    have hG4:=hG.same k4
    have hf4:upd H3 lf (.lst []) lf=some (.lst []):=Qb
    dsimp only
    rw [hsp0]
    generalize upd H3 lf (.lst [])=H4 at k4 hG4 hf4
    refine ⟨fun σ' H'=>∃ (spot:Nat) (n:Nd) (bare':List Nat) (lf:Addr) (us:List PNx),σ'=[some (.ref lw),some (.ref lc),some (.int (top:Int)),some (.ref d),some (.ref ln),some (.ref lb),some (.int c),some (.int nu),some (.int (spot:Int)),some (.ref lf),c10]∧GH H1 H' ln lb ns bare'∧BOk ns bare'∧ns[spot]?=some n∧H' lf=some (.lst (us.map fun r=>V.ref r.1))∧(∀ r ∈ us,r ∈ Qs ks n.kd)∧us.length≤10∧(us≠[]→n.row=none∧n.lv < top∧spot ∉ bare'),?_,?_⟩
    · refine ⟨_,rfl,(by show 0≤sizeLine;decide),fun le hle=>?_⟩
      have ke:=Qf hle (.lst [])
      have hGe:=hG4.same ke
      have layb:(PyData.list ((bare.map fun (b:Nat)=>(b:Int)).map PyData.int)).canLay0=true:=by simp only [PyData.canLay0];exact UT _
      refine ⟨.list ((bare.map fun (b:Nat)=>(b:Int)).map PyData.int),.list [],.lst (SqL.of hGe.hb) (by rw [O3];exact Xk _),.lst (SqL.of Qb) .nil,layb,by simp [PyData.canLay0,PyData.canLayAll0],room _ (Nat.le_trans (Nat.min_le_right _ _) (by simp [PyData.depth,PyData.depthAll])),_,rfl,?_⟩
      rw [if_pos rfl,XG]
      have hfe:=ke _ _ hf4
      generalize upd H4 le (.lst [])=H5 at hGe hfe
      by_cases hbe:bare=[]
      · rw [hbe]
        obtain ⟨n,hn⟩ : ∃ n,ns[sp0]?=some n:=⟨_,List.getElem?_eq_getElem hsp1⟩
        exact Zu ⟨sp0,n,[],lf,[],rfl,by rw [← hbe];exact hGe,by rw [← hbe];exact hB,hn,hfe,fun r hr=>(nomatch hr),by show 0≤10;omega,fun z=>absurd rfl z⟩
      have hbp:0 < bare.length:=List.length_pos_iff.mpr hbe
      have hbt:(!((bare.map fun (b:Nat)=>(b:Int)).map PyData.int).isEmpty)=true:=by
        cases hbb:bare with
        | nil=>exact absurd hbb hbe
        | cons x r=>rfl
      refine Y8 (fun _=>?_) (fun z=>absurd hbt z)
      refine ⟨_,rfl,.inl ⟨rfl,_,SqL.of hGe.hb⟩,⟨fun v H'=>Same H5 H'∧∃ k:Nat,v=.int (k:Int)∧k < bare.length,?_,?_⟩⟩
      · refine ⟨_,rfl,_,_,rfl,rfl,⟨by decide,by decide⟩,_,rfl,lb,_,rfl,.inl (SqL.of hGe.hb),_,_,rfl,rfl,(by rw [hbl];omega),_,rfl,lb,_,rfl,.inl (SqL.of hGe.hb),_,_,rfl,rfl,(by show 2≤sizeLine;decide),fun lp hlp=>?_⟩
        have kp:=Qf hlp (.lst [.int (nu / 4 % (((NI bare).length:Nat):Int)),.int ((((NI bare).length:Nat):Int) - 1)])
        have a0:0≤nu / 4 % (((NI bare).length:Nat):Int):=Int.emod_nonneg _ (by rw [hbl];omega)
        have a1:nu / 4 % (((NI bare).length:Nat):Int) < (((NI bare).length:Nat):Int):=Int.emod_lt_of_pos _ (by rw [hbl];omega)
        have a2:nu / 4 % (((NI bare).length:Nat):Int) < (bare.length:Int):=by omega
        have p0:0≤nu % 2:=Int.emod_nonneg _ (by decide)
        have p1:nu % 2 < 2:=Int.emod_lt_of_pos _ (by decide)
        rcases (show nu % 2=0∨nu % 2=1 by omega) with hp | hp
        · refine ⟨_,rfl,_,_,rfl,rfl,(by show (0:Int) < 2;decide),lp,_,_,.int (nu / 4 % (((NI bare).length:Nat):Int)),rfl,rfl,SqL.of Qb,(by show atI _ (nu % 2)=_;rw [hp];rfl),kp,(nu / 4 % (((NI bare).length:Nat):Int)).toNat,by rw [Int.toNat_of_nonneg a0],by omega⟩
        · refine ⟨_,rfl,_,_,rfl,rfl,(by show (0:Int) < 2;decide),lp,_,_,.int ((((NI bare).length:Nat):Int) - 1),rfl,rfl,SqL.of Qb,(by show atI _ (nu % 2)=_;rw [hp];rfl),kp,bare.length - 1,by rw [hbl,show ((bare.length:Nat):Int) - 1=((bare.length - 1:Nat):Int) by omega],by omega⟩
      rintro v H6 ⟨g6,k,rfl,hk⟩
      have hG6:=hGe.same g6
      have hbk:bare[k]?=some bare[k]:=List.getElem?_eq_getElem hk
      have hble:=hB.bl
      refine ⟨lb,_,_,k,.int ((bare[k]:Nat):Int),rfl,rfl,hG6.hb,by omega,by omega,by rw [hbl];exact MB hk,by rw [List.getElem?_map,hbk];rfl,?_⟩
      rw [show (NI bare).eraseIdx k=NI (bare.eraseIdx k) from Jz _ _ _]
      have hG7:=hG6.setB (bare.eraseIdx k)
      have hd7:=hG7.sm _ _ hd1
      generalize upd H6 lb (.lst (NI (bare.eraseIdx k)))=H7 at hG7 hd7
      obtain ⟨n,hn,hnr⟩:=hB.no bare[k] (List.getElem_mem hk)
      have hB7:BOk ns (bare.eraseIdx k):=⟨hB.nd.sublist (List.eraseIdx_sublist _ _),fun b hb=>hB.no b (List.mem_of_mem_eraseIdx hb),Nat.le_trans (List.length_eraseIdx_le _ _) hB.bl⟩
      have hnot:bare[k] ∉ bare.eraseIdx k:=fun z=>(VH hB.nd hbk z).2 rfl
      generalize bare[k]=spot at hn hnot
      obtain ⟨kd,hkd,ekd,erow,hfd⟩:=UL ((hA _ _ hn).kd) hWF.ok
      have hWn:=hW1.same hG7.sm
      have hRn:=(hWn.2 kd hkd).2
      have hro:=(hWF.kf kd hkd).ok
      refine ⟨_,rfl,_,rfl,_,rfl,ln,_,_,_,rfl,rfl,SqL.of hG7.hn,Zz hn,n.a,_,0,_,rfl,rfl,SqL.of (hG7.ha _ _ hn),rfl,d,.ref kd.2.2.1,rfl,Xc hd7 hfd,kd.2.2.1,rfl,⟨_,hRn.1⟩,fun acc hacc=>?_⟩
      refine ZT (K:=K) (xs:=kd.2.2.2.map fun t=>V.ref t.1) (cs:=[some (.ref ln),some (.int (spot:Int)),some (.int (top:Int))]) (te:=Zf 0) (fun j ys H'=>∃ us:List PNx,ys=us.map (fun r=>V.ref r.1)∧H' acc=some (.lst ys)∧Same H7 H'∧(∀ r ∈ us,r ∈ kd.2.2.2)∧us.length≤j∧(us≠[]→n.lv < top))
        ⟨[],rfl,Qb,Qf hacc _,fun r hr=>(nomatch hr),Nat.le_refl _,fun z=>absurd rfl z⟩ ?_ ?_ ?_
      · rintro j ys H' _ ⟨_,_,_,g,_⟩
        exact g.seq hRn.1
      · rintro j x ys H8 hj hx ⟨us,rfl,hy,g8,hus,hul,hune⟩
        have hjr:j < kd.2.2.2.length:=by simpa using hj
        obtain rfl:x=.ref kd.2.2.2[j].1:=by
          rw [List.getElem?_map,List.getElem?_eq_getElem hjr] at hx
          exact (Option.some.inj hx).symm
        obtain ⟨hr1,hr2⟩:=hRn.2 _ (List.getElem_mem hjr)
        have h10:=hro.len
        have skip:∀ H9,Same H8 H9→∃ us':List PNx,us.map (fun r=>V.ref r.1)=us'.map (fun r=>V.ref r.1)∧H9 acc=some (.lst (us.map fun r=>V.ref r.1))∧Same H7 H9∧(∀ r ∈ us',r ∈ kd.2.2.2)∧us'.length≤j + 1∧(us'≠[]→n.lv < top):=fun H9 g9=>⟨us,rfl,g9 _ _ hy,g8.trans g9,hus,by omega,hune⟩
        refine ⟨_,rfl,kd.2.2.2[j].1,_,1,_,rfl,rfl,g8.seqT hr1,rfl,(by show 0≤sizeLine;decide),fun pt hpt=>?_⟩
        have kt:=Qf hpt (.tup [])
        have lay1:(PyData.tuple (kd.2.2.2[j].2.2.2.map PyData.str)).canLay0=true:=by simp only [PyData.canLay0];exact Z3 _ (hro.kn _ (List.getElem_mem hjr))
        refine ⟨_,.tuple [],.tup ((g8.trans kt).seqT hr2) (YD _),.tup (SqT.of Qb) .nil,lay1,by simp [PyData.canLay0,PyData.canLayAll0],room _ (Nat.le_trans (Nat.min_le_right _ _) (by simp [PyData.depth,PyData.depthAll])),_,rfl,?_⟩
        rw [if_pos rfl,XY]
        have hG9:=hG7.same (g8.trans kt)
        refine Y8 (fun cb=>?_) (fun cb=>?_)
        · refine ⟨_,rfl,_,rfl,ln,_,_,_,rfl,rfl,SqL.of hG9.hn,Zz hn,n.a,_,1,_,rfl,rfl,SqL.of (hG9.ha _ _ hn),rfl,_,rfl,_,_,rfl,rfl,_,rfl,?_⟩
          refine Y8 (fun cl=>?_) (fun cl=>Yj hj (skip _ kt))
          have hlt:(n.lv:Int) < (top:Int):=of_decide_eq_true cl
          refine ⟨_,rfl,Qw hj (kt _ _ hy) (by rw [List.length_map];omega) ⟨us ++ [kd.2.2.2[j]],by rw [List.map_append];rfl,Qb,fun z u e=>?_,fun r hr=>?_,by rw [List.length_append,List.length_singleton];omega,fun _=>by omega⟩⟩
          · rw [Qg (Qh e hacc)];exact kt _ _ (g8 _ _ e)
          · rcases List.mem_append.mp hr with hr | hr
            · exact hus r hr
            · have:r=kd.2.2.2[j]:=by simpa using hr
              rw [this];exact List.getElem_mem hjr
        · exact Zu (Yj hj (skip _ kt))
      · rintro ys H8 ⟨us,rfl,hy,g8,hus,hul,hune⟩
        rw [List.length_map] at hul
        exact ⟨spot,n,bare.eraseIdx k,acc,us,rfl,hG7.same g8,hB7,hn,hy,fun r hr=>by rw [erow];exact hus r hr,Nat.le_trans hul hro.len,fun z=>⟨hnr,hune z,hnot⟩⟩
    rintro σ H5 ⟨spot,n,bare1,lf,us,rfl,hG5,hB5,hn,hlf5,hus,hul,hne⟩
    refine ⟨fun σ' H'=>∃ (c10:Option V) (n':Nd) (ns':List Nd) (bare':List Nat),σ'=[some (.ref lw),some (.ref lc),some (.int (top:Int)),some (.ref d),some (.ref ln),some (.ref lb),some (.int c),some (.int nu),some (.int (spot:Int)),some (.ref lf),c10]∧GH H1 H' ln lb ns' bare'∧AllOk ks top ns'∧BOk ns' bare'∧ns'[spot]?=some n'∧0 < ns'.length∧ns'.length≤1 + 3 * (i + 1)∧∃ n,ns'[0]?=some n∧n.kd=k0.2.1,?_,?_⟩
    · refine ⟨_,rfl,(by show 0≤sizeLine;decide),fun le hle=>?_⟩
      have ke:=Qf hle (.lst [])
      have hGe:=hG5.same ke
      have hAn:=hA _ _ hn
      obtain ⟨kd,hkd,ekd,erow,hfd⟩:=UL hAn.kd hWF.ok
      have hro:=(hWF.kf kd hkd).ok
      have hRW:∀ H',Same H1 H'→∀ r ∈ us,RowAt K H' r:=fun H' g r hr=>(((hW1.same g).2 kd hkd).2).2 r (by rw [← erow];exact hus r hr)
      have layr:(PyData.list (us.map ZH)).canLay0=true:=by
        simp only [PyData.canLay0]
        exact UI (fun r hr=>hro.nm r (by rw [← erow];exact hus r hr)) fun r hr=>hro.kn r (by rw [← erow];exact hus r hr)
      have hfe:=ke _ _ hlf5
      refine ⟨.list (us.map ZH),.list [],.lst (SqL.of hfe) (JY (hRW _ hGe.sm)),.lst (SqL.of Qb) .nil,layr,by simp [PyData.canLay0,PyData.canLayAll0],room _ (Nat.le_trans (Nat.min_le_right _ _) (by simp [PyData.depth,PyData.depthAll])),_,rfl,?_⟩
      rw [if_pos rfl,XG]
      generalize upd H5 le (.lst [])=H6 at hGe hfe
      by_cases hue:us=[]
      · rw [hue]
        exact Zu ⟨_,n,ns,bare1,rfl,hGe,hA,hB5,hn,hL1,by omega,hF⟩
      have hup:0 < us.length:=List.length_pos_iff.mpr hue
      have hut:(!(us.map ZH).isEmpty)=true:=by
        cases hbb:us with
        | nil=>exact absurd hbb hue
        | cons x r=>rfl
      refine Y8 (fun _=>?_) (fun z=>absurd hut z)
      obtain ⟨hnr,hnl5,hnb⟩:=hne hue
      have eul:(us.map fun r=>V.ref r.1).length=us.length:=List.length_map ..
      obtain ⟨y,hy,hat⟩:=ZA (xs:=us.map fun r=>V.ref r.1) (k:=((us.map fun r=>V.ref r.1).length:Int)) rfl (by rw [eul];exact hup) (nu / 1024)
      obtain ⟨r,hr,rfl⟩:=List.mem_map.mp hy
      refine ⟨_,rfl,_,rfl,_,_,rfl,rfl,⟨by decide,by decide⟩,_,rfl,lf,_,rfl,.inl (SqL.of hfe),_,_,rfl,rfl,(by rw [eul];omega),lf,_,_,_,rfl,rfl,SqL.of hfe,hat,?_⟩
      refine ⟨_,rfl,_,rfl,ln,_,_,_,rfl,rfl,SqL.of hGe.hn,Zz hn,n.a,_,2,2,rfl,rfl,hGe.ha _ _ hn,rfl,?_⟩
      have hG7:=hGe.setA hn { n with row:=some r } rfl rfl rfl
      have hM7:Mid ks top k0.2.1 spot n.kd n.lv r ns.length 0 (ns.set spot { n with row:=some r }) bare1:=Mid.start hA hB5 hn hnr hnb (hus r hr) hF
      have hn7:(ns.set spot { n with row:=some r })[spot]?=some { n with row:=some r }:=Uv hn
      rw [show (ndV n).set 2 (V.ref r.1)=ndV { n with row:=some r } from rfl]
      generalize upd H6 n.a (.lst (ndV { n with row:=some r }))=H7 at hG7
      have hrm:r ∈ kd.2.2.2:=by rw [← erow];exact hus r hr
      have hw3:=(hWF.kf kd hkd).w3 r hrm
      have hcl:=(hWF.kf kd hkd).cl r hrm
      have hRr:∀ H',Same H1 H'→RowAt K H' r:=fun H' g=>hRW H' g r hr
      refine ⟨_,rfl,_,rfl,ln,_,_,_,rfl,rfl,SqL.of hG7.hn,Zz hn7,n.a,_,2,_,rfl,rfl,SqL.of (hG7.ha spot { n with row:=some r } hn7),rfl,r.1,_,1,_,rfl,rfl,(hRr _ hG7.sm).1,rfl,r.2.2.1,rfl,⟨_,(hRr _ hG7.sm).2⟩,?_⟩
      refine J2 (K:=K) (xs:=r.2.2.2.map V.str) (fun j σ H'=>∃ (c10:Option V) (ns':List Nd) (bare':List Nat),σ=[some (.ref lw),some (.ref lc),some (.int (top:Int)),some (.ref d),some (.ref ln),some (.ref lb),some (.int c),some (.int nu),some (.int (spot:Int)),some (.ref lf),c10]∧GH H1 H' ln lb ns' bare'∧Mid ks top k0.2.1 spot n.kd n.lv r ns.length j ns' bare')
        ⟨_,_,_,rfl,hG7,hM7⟩ ?_ ?_ ?_
      · rintro j σ H' _ ⟨_,_,_,_,g,_⟩
        exact (hRr _ g.sm).2
      · rintro j x σ H8 hx ⟨c10',ns',bare',rfl,hG8,hM8⟩
        have hj:j < r.2.2.2.length:=by
          have:=(List.getElem?_eq_some_iff.mp hx).1
          simpa using this
        obtain rfl:x=.str r.2.2.2[j]:=by
          rw [List.getElem?_map,List.getElem?_eq_getElem hj] at hx
          exact (Option.some.inj hx).symm
        obtain ⟨n8,hn8,hr8,hk8,hl8,hN8⟩:=hM8.sp
        have hlen8:=hM8.len
        have enl:(NR ns').length=ns.length + j:=by rw [List.length_map,hlen8]
        have hch8:=(hN8.ro r hr8).2.1
        have hbl8:=hM8.bk.bl
        refine ⟨_,rfl,_,rfl,ln,_,_,_,rfl,rfl,SqL.of hG8.hn,Zz hn8,n8.a,_,4,_,rfl,rfl,SqL.of (hG8.ha _ _ hn8),rfl,.inl ⟨rfl,_,SqL.of (hG8.hc _ _ hn8)⟩,_,rfl,ln,_,rfl,.inl (SqL.of hG8.hn),n8.cl,_,_,rfl,rfl,hG8.hc _ _ hn8,by rw [List.length_map,QH];omega,?_⟩
        have e1:NI n8.ch ++ [V.int (((NR ns').length:Nat):Int)]=NI (n8.ch ++ [ns.length + j]):=by rw [enl];unfold NI;rw [List.map_append];rfl
        rw [e1]
        have hG9:=hG8.setC hn8 (n8.ch ++ [ns.length + j])
        generalize upd H8 n8.cl (.lst (NI (n8.ch ++ [ns.length + j])))=H9 at hG9
        have hn9:=Uv (n':={ n8 with ch:=n8.ch ++ [ns.length + j] }) hn8
        have enl9:(NR (ns'.set spot { n8 with ch:=n8.ch ++ [ns.length + j] })).length=ns.length + j:=by rw [List.length_map,List.length_set,hlen8]
        refine ⟨_,rfl,.inl ⟨rfl,_,SqL.of hG9.hb⟩,_,rfl,ln,_,rfl,.inl (SqL.of hG9.hn),lb,_,_,rfl,rfl,hG9.hb,by rw [List.length_map,QH];omega,?_⟩
        have e2:NI bare' ++ [V.int (((NR (ns'.set spot { n8 with ch:=n8.ch ++ [ns.length + j] })).length:Nat):Int)]=NI (bare' ++ [ns.length + j]):=by rw [enl9];unfold NI;rw [List.map_append];rfl
        rw [e2]
        have hG10:=hG9.setB (bare' ++ [ns.length + j])
        generalize upd H9 lb (.lst (NI (bare' ++ [ns.length + j])))=H10 at hG10
        refine ⟨_,rfl,.inl ⟨rfl,_,SqL.of hG10.hn⟩,_,rfl,_,rfl,_,rfl,ln,_,_,_,rfl,rfl,SqL.of hG10.hn,Zz hn9,n8.a,_,1,_,rfl,rfl,SqL.of (hG10.ha spot { n8 with ch:=n8.ch ++ [ns.length + j] } hn9),rfl,_,_,rfl,rfl,?_⟩
        refine ⟨_,rfl,_,rfl,ln,_,rfl,.inl (SqL.of hG10.hn),_,_,rfl,rfl,_,_,rfl,rfl,⟨?_,?_⟩,_,_,rfl,rfl,(by show (0:Int) < 5;decide),_,_,rfl,rfl,(by show 0≤sizeLine;decide),fun mc hmc=>⟨(by show 5≤sizeLine;decide),fun ma hma=>?_⟩⟩
        · show (0:Int) < 3 + (((NR (ns'.set spot { n8 with ch:=n8.ch ++ [ns.length + j] })).length:Nat):Int)
          omega
        · show 3 + (((NR (ns'.set spot { n8 with ch:=n8.ch ++ [ns.length + j] })).length:Nat):Int) < 1073741824
          rw [enl9];omega
        have kc:=Qf hmc (.lst [])
        have ka:=Qf hma (.lst [.str r.2.2.2[j],.int ((n8.lv:Int)+1),.non,.int (nu / (3 + (((NR (ns'.set spot { n8 with ch:=n8.ch ++ [ns.length + j] })).length:Nat):Int)) % 5 - 2),.ref mc])
        refine ⟨ln,_,_,rfl,rfl,ka _ _ (kc _ _ hG10.hn),by rw [enl9,QH];omega,_,_,_,rfl,GH.add hG10 (kc.trans ka) ⟨ma,r.2.2.2[j],n8.lv + 1,none,nu / (3 + (((NR (ns'.set spot { n8 with ch:=n8.ch ++ [ns.length + j] })).length:Nat):Int)) % 5 - 2,mc,[]⟩ (kc.free hma) hmc (Ne.symm (Qh Qb hma)) Qb (ka _ _ Qb),hM8.next hn8 (List.getElem?_eq_getElem hj) (by omega) (hcl _ (List.getElem_mem hj)) rfl (by show n8.lv + 1=n.lv + 1;rw [hl8]) rfl rfl⟩
      · rintro σ H8 ⟨c10',ns',bare',rfl,hG8,hM8⟩
        rw [List.length_map] at hM8
        obtain ⟨n8,hn8,_⟩:=hM8.sp
        exact ⟨_,n8,ns',bare',rfl,hG8,hM8.done,hM8.bk,hn8,by rw [hM8.len];omega,by rw [hM8.len];omega,hM8.k0⟩
    rintro σ H6 ⟨c10',n',ns',bare',rfl,hG6,hA6,hB6,hn6,hL6,hL6',hF6⟩
    refine ⟨_,rfl,_,rfl,c,nu,rfl,fun mk H7 g7=>?_⟩
    have hG7:=hG6.same g7
    refine ⟨_,rfl,_,rfl,ln,_,_,_,rfl,rfl,SqL.of hG7.hn,Zz hn6,n'.a,_,3,3,rfl,rfl,hG7.ha _ _ hn6,rfl,?_⟩
    exact ⟨_,_,_,_,_,ns'.set spot { n' with mr:=mk },bare',rfl,hG7.setA hn6 { n' with mr:=mk } rfl rfl rfl,hA6.setM hn6 mk,hB6.setM hn6 mk,by rw [List.length_set];exact hL6,by rw [List.length_set];exact hL6',Y2 hn6 rfl hF6⟩
  · rintro σ H3 ⟨c6,c7,c8,c9,c10,ns,bare,rfl,hG,hA,hB,hL1,hL2,hF⟩
    rw [List.length_map] at hL2
    exact ⟨_,rfl,q ln lb H1 H3 ns bare k1 hG hA hL1 (by omega) hF⟩
end
end K22
namespace K22
open PySem L2 TM TT K9 K11
theorem VA {f:Str→Str→Option (List Str)}:∀ {bs:List (Tree Str)} {ss:List Str},ss.length=bs.length→(∀ (i:Nat) b s,bs[i]?=some b→ss[i]?=some s→isT f b s=true)→Yp f bs ss=true
  | [],ss,h,_=>by
    have:ss=[]:=List.length_eq_zero_iff.mp h
    subst this;simp [Yp]
  | b :: bs,[],h,_=>by simp at h
  | b :: bs,s :: ss,h,k=>by
    simp only [Yp,Bool.and_eq_true]
    exact ⟨k 0 b s rfl rfl,VA (by simpa using h) fun i b' s' h1 h2=>k (i + 1) b' s' (by simpa using h1) (by simpa using h2)⟩
theorem Vb {d:Nat}:∀ {ts:List (Tree Str)},(∀ t ∈ ts,lv t≤d)→lvs ts≤d
  | [],_=>by simp [lvs]
  | t :: r,h=>by
    have h1:=h t List.mem_cons_self
    have h2:=Vb fun u hu=>h u (List.mem_cons_of_mem _ hu)
    simp only [lvs];omega
theorem Js {ks:List KdT} {k:Str} {r:PNx} (ok:RowsOk (Qs ks k)) (h:r ∈ Qs ks k):QW ks k r.2.1=some r.2.2.2:=by
  have hf:(Qs ks k).find? (fun x=>decide (x.2.1=r.2.1))=some r:=by
    obtain ⟨i,hi,e⟩:=List.getElem_of_mem h
    refine YM (i:=i) (by rw [List.getElem?_eq_getElem hi,e]) (by simp) fun j y hj hy=>decide_eq_false fun z=>?_
    have h1:=List.pairwise_iff_getElem.mp ok.nd j i (by rw [List.length_map];omega) (by rw [List.length_map];omega) hj
    rw [List.getElem_map,List.getElem_map,e,(List.getElem?_eq_some_iff.mp hy).2] at h1
    exact h1 z
  unfold QW
  rw [hf];rfl
theorem OD {m:Nat} {us:List V} {v:V}:(List.replicate (m + 1) V.non ++ us).set m v=List.replicate m V.non ++ v :: us:=by
  rw [List.replicate_succ',List.append_assoc,List.set_append_right _ _ (by rw [List.length_replicate];omega),List.length_replicate,Nat.sub_self]
  rfl
theorem J9 {n k:Nat} (h:k < n):ixN n ((k:Nat):Int)=some k:=by
  unfold ixN
  rw [if_pos (by omega),if_pos (by omega),Int.toNat_natCast]
theorem O0 {k c:Nat} {us:List V} {u:V} (hc:k < c) (h:us[c - (k + 1)]?=some u):atI (List.replicate (k + 1) V.non ++ us) ((c:Nat):Int)=some u :=
  Qv (by rw [List.getElem?_append_right (by rw [List.length_replicate];omega),List.length_replicate];exact h)
structure NdsAt (K:PySem.W.Frag) (H:Hp) (ln:Addr) (ns:List Nd):Prop where
  l:SqL K H ln (NR ns)
  a:∀ (i:Nat) n,ns[i]?=some n→SqL K H n.a (ndV n)
  c:∀ (i:Nat) n,ns[i]?=some n→SqL K H n.cl (NI n.ch)
theorem NdsAt.same {K:PySem.W.Frag} {H H':Hp} {ln:Addr} {ns:List Nd} (g:Same H H') (h:NdsAt K H ln ns):NdsAt K H' ln ns:=⟨g.seq h.l,fun i n e=>g.seq (h.a i n e),fun i n e=>g.seq (h.c i n e)⟩
theorem GH.at {K:PySem.W.Frag} {H1 H:Hp} {ln lb:Addr} {ns:List Nd} {bare:List Nat} (h:GH H1 H ln lb ns bare):NdsAt K H ln ns:=⟨SqL.of h.hn,fun i n e=>SqL.of (h.ha i n e),fun i n e=>SqL.of (h.hc i n e)⟩
def P1 (ks:List KdT) (s:List (Str × Nat)) (n:Nd) (t:Tree Str):Prop:=∃ ss,QW ks n.kd (nmT t)=some ss∧∀ (j c:Nat),n.ch[j]?=some c→∃ k l,s[c]?=some (k,l)∧ss[j]?=some k
def KidT (ks:List KdT) (s:List (Str × Nat)) (x:Nat) (ts:List (Tree Str)) (b0:Nat) (n:Nd) (t:Tree Str):Prop:=t.bs.length=n.ch.length∧(∀ (a:Nat) b c,t.bs[a]?=some b→n.ch[a]?=some c→x < c∧ts[c - b0]?=some b)∧P1 ks s n t
theorem KidT.cons {ks:List KdT} {s:List (Str × Nat)} {k j:Nat} {ts:List (Tree Str)} {n:Nd} {t x:Tree Str} (h:KidT ks s (k + 1 + j) ts (k + 1) n t):KidT ks s (k + (j + 1)) (x :: ts) k n t:=by
  refine ⟨h.1,fun a b c h1 h2=>?_,h.2.2⟩
  obtain ⟨h3,h4⟩:=h.2.1 a b c h1 h2
  refine ⟨by omega,?_⟩
  rw [show c - k=(c - (k + 1))+1 by omega,List.getElem?_cons_succ]
  exact h4
def Xx (K:PySem.W.Frag):Sp:=fun vs H Q _=>∃ (lw ln:Addr) (ks:List KdT) (top:Nat) (ns:List Nd),vs=[.ref lw,.ref ln]∧WoodAt K H lw ks∧WF ks∧NdsAt K H ln ns∧AllOk ks top ns∧0 < ns.length∧ns.length≤200 ∧
  ∀ (lt:Addr) (H':Hp) (us:List V) (ts:List (Tree Str)),Same H H'→SqL K H' lt us→TrAll K H' us ts→ts.length=ns.length→(∀ (i:Nat) n t,ns[i]?=some n→ts[i]?=some t→isT (QW ks) t n.kd=true∧lv t≤top∧KidT ks (sg ns) i ts 0 n t)→Q (.ref lt) H'
abbrev OF:List Str:=["_law_wood_here", "_law_nodes", "_law_trees", "_law_k", "_law_row", "_law_ends"]
section
variable {P:Program} {w:World} {K:PySem.W.Frag} {mg:Str→Option Value} {base:Heap} {f:Addr} {fd:FuncData}
theorem Yn:FnScope OF ["_law_wood_here", "_law_nodes"] (defScope U0):=⟨rfl,rfl,rfl,by decide +kernel,rfl,by decide +kernel,by decide +kernel⟩
theorem LP (F:Fun K "_law_built" "_law_built" U0 f fd) (G:Gm mg) (RM:Fn P w K mg base 1 "_law_mixed" ["_law_cell", "_law_k"] Zi):FnOk P w K mg base CX0 2 f fd ["_law_wood_here", "_law_nodes"] (Xx K):=by
  refine F.ok Yn (fun vs H Q E h=>?_) (fun cdv A outer s H vs Q E hr h=>?_)
  · obtain ⟨lw,ln,ks,top,ns,rfl,_⟩:=h
    rfl
  obtain ⟨lw,ln,ks,top,ns,rfl,hW,hWF,hN,hA,hL0,hL1,q⟩:=h
  have room:∀ m:Nat,m≤64→(A.deeper (PyProof.Rows.envOfC "_law_built" (defScope U0) s.heap.objs.size f cdv)).units + m < cLine:=fun m hm=>by have:=hr.units;omega
  refine ⟨_,(Qe (Qn (i:=2) Yn.nd rfl (Or.inr rfl) (QI (CompG.many (xs:=["_law_node"]) (caps:=[]) (cap:=[]) (cs:=[]) rfl rfl (by decide +kernel) (by decide +kernel) (by decide +kernel) (by decide +kernel) (by decide +kernel) (by decide +kernel) rfl rfl rfl) rfl (QY (pv 1)) (Zk (CompG.many (xs:=["_law_node"]) (caps:=[]) (cap:=[]) (cs:=[]) rfl rfl (by decide +kernel) (by decide +kernel) (by decide +kernel) (by decide +kernel) (by decide +kernel) (by decide +kernel) rfl rfl rfl)) (fun _ _ _ _=>QX) (fun _ _ _ _=>ZF)))
    (Qe (QU PassesOwn.never rfl (LA rfl G.rev (Qa (QB JG rfl G.rng PyProof.Rows.boot_range (Qa (Qq Qo rfl G.len PySem.boot_len (Qa (pv 1) Qc)) Qc)) Qc)) (Qu (i:=3) Yn.nd rfl (Or.inl rfl)) (Qe (Qn (i:=4) Yn.nd rfl (Or.inl rfl) (Qj Qk (Qj Qk (pv 1) (pv 3) (fun _ _=>rfl)) Qd (fun _ _=>rfl)))
    (Qe (Z8 (QT (Qy LI (pv 4) ZF (QA _)) (Qe (ZC (i:=5) (CompG.many (xs:=["_law_end"]) (caps:=[]) (cap:=[]) (cs:=[]) rfl rfl (by decide +kernel) (by decide +kernel) (by decide +kernel) (by decide +kernel) (by decide +kernel) (by decide +kernel) rfl rfl rfl) rfl (QY (Zy (ZL hr) (QB (Zg rfl) rfl G.dct PyProof.Rows.boot_dict (Qa (pv 0) Qc)) (Qj Qk (Qj Qk (pv 1) (pv 3) (fun _ _=>rfl)) Qd (fun _ _=>rfl)) (fun _ _=>rfl))) (Zk (CompG.many (xs:=["_law_end"]) (caps:=[]) (cap:=[]) (cs:=[]) rfl rfl (by decide +kernel) (by decide +kernel) (by decide +kernel) (by decide +kernel) (by decide +kernel) (by decide +kernel) rfl rfl rfl)) (fun _ _ _ _=>WG (Qy (r:=Nr K (A.deeper (PyProof.Rows.envOfC "_law_built" (defScope U0) s.heap.objs.size f cdv)) false) OS (Qj (r:=Gr K) Ql (pv 0) Qd (fun _ _=>rfl)) (QJ Qc) (QA _))) (fun _ _ _ _=>pv 0) Yn.nd rfl rfl)
    (Qi (Qn (i:=4) Yn.nd rfl (Or.inl rfl) (Qj Qk (pv 5) (Qm Qz (Qr RM hr (Qa (Qj Qk (Qj Qk (pv 1) (pv 3) (fun _ _=>rfl)) Qd (fun _ _=>rfl)) (Qa (pv 3) Qc))) (Qq Qo rfl G.len PySem.boot_len (Qa (pv 5) Qc))) (fun _ _=>rfl))))) Qx))
    (Qi (Yu (QJ (Qa (Qj Ql (pv 4) Qd (fun _ _=>rfl)) (Qa (Qj Qk (Qj Qk (pv 1) (pv 3) (fun _ _=>rfl)) Qd (fun _ _=>rfl)) (Qa (QB Q8 rfl G.tup PyProof.Rows.boot_tuple (Qa (QI (CompG.many (xs:=["_law_j"]) (caps:=["_law_trees"]) (cap:=[2]) (cs:=[_]) rfl rfl (by decide +kernel) (by decide +kernel) (by decide +kernel) (by decide +kernel) (by decide +kernel) (by decide +kernel) rfl rfl rfl) rfl (QY (Qj Qk (Qj Qk (pv 1) (pv 3) (fun _ _=>rfl)) Qd (fun _ _=>rfl))) (Zk (CompG.many (xs:=["_law_j"]) (caps:=["_law_trees"]) (cap:=[2]) (cs:=[_]) rfl rfl (by decide +kernel) (by decide +kernel) (by decide +kernel) (by decide +kernel) (by decide +kernel) (by decide +kernel) rfl rfl rfl)) (fun _ _ _ _=>QX) (fun _ _ _ _=>Qj (r:=Jn K) Qk (pv 1) (pv 0) (fun _ _=>rfl))) Qc)) Qc)))) (Xj (pv 2) (pv 3) YF))))))
    (Qi (Qp (pv 2))))),?_⟩
  have hnl:(NR ns).length=ns.length:=List.length_map ..
  refine ⟨_,rfl,ln,rfl,⟨_,hN.l⟩,fun lt hlt=>?_⟩
  refine ZT (K:=K) (xs:=NR ns) (cs:=[]) (tt:=fun _ H Q=>Q true H) (fun j ys H'=>ys=List.replicate j V.non∧H' lt=some (.lst ys)∧Same H H')
    ⟨rfl,Qb,Qf hlt _⟩ ?_ ?_ ?_
  · rintro j ys H' _ ⟨_,_,g⟩
    exact g.seq hN.l
  · rintro j x ys H' hj hx ⟨rfl,hy,g⟩
    refine Q7 (Qw hj hy (by rw [List.length_replicate];omega) ⟨List.replicate_succ'.symm,Qb,fun z u e=>?_⟩)
    rw [Qg (Qh e hlt)];exact g _ _ e
  rintro ys H1 ⟨rfl,hlt1,g1⟩
  rw [hnl] at hlt1
  refine ⟨_,rfl,ln,_,rfl,.inl (g1.seq hN.l),_,rfl,by omega,by omega,fun pr hpr=>⟨pr,_,rfl,Qb,by omega,by omega,?_⟩⟩
  have k2:=Qf hpr (.rng 0 (((NR ns).length:Nat):Int))
  have hlt2:=k2 _ _ hlt1
  have g2:=g1.trans k2
  generalize upd H1 pr (.rng 0 (((NR ns).length:Nat):Int))=H2 at hlt2 g2
  rw [hnl,Int.toNat_natCast]
  refine UK (hi:=((ns.length:Nat):Int) - 1) (n:=ns.length) (fun i σ H'=>∃ (c3 c4 c5:Option V) (us:List V) (ts:List (Tree Str)),σ=[some (.ref lw),some (.ref ln),some (.ref lt),c3,c4,c5]∧Same H H'∧H' lt=some (.lst (List.replicate (ns.length - i) V.non ++ us))∧TrAll K H' us ts∧ts.length=i∧∀ (j:Nat) n t,ns[ns.length - i + j]?=some n→ts[j]?=some t→isT (QW ks) t n.kd=true∧lv t + n.lv≤top + 1∧KidT ks (sg ns) (ns.length - i + j) ts (ns.length - i) n t)
    ⟨none,none,none,[],[],rfl,g2,by rw [List.append_nil];exact hlt2,.nil,rfl,fun j n t _ h=>by simp at h⟩ ?_ ?_
  · rintro i σ H3 hi ⟨c3,c4,c5,us,ts,rfl,g3,hlt3,hts,htl,hok⟩
    obtain ⟨k,hk⟩ : ∃ k,ns.length - i=k + 1:=⟨ns.length - i - 1,by omega⟩
    have ek:((ns.length:Nat):Int) - 1 - (i:Int)=((k:Nat):Int):=by omega
    rw [ek]
    rw [hk] at hlt3 hok
    have hkl:k < ns.length:=by omega
    have hn:ns[k]?=some ns[k]:=List.getElem?_eq_getElem hkl
    generalize ns[k]=n at hn
    have hAn:=hA _ _ hn
    obtain ⟨kd,hkd,ekd,erow,hfd⟩:=UL hAn.kd hWF.ok
    have hro:=(hWF.kf kd hkd).ok
    have hN3:=hN.same g3
    refine ⟨_,rfl,_,rfl,ln,_,_,_,rfl,rfl,hN3.l,Zz hn,n.a,_,2,_,rfl,rfl,hN3.a _ _ hn,rfl,?_⟩
    refine ⟨fun σ' H'=>∃ (c5:Option V) (r:PNx),σ'=[some (.ref lw),some (.ref ln),some (.ref lt),some (.int (k:Int)),some (.ref r.1),c5]∧Same H3 H'∧r ∈ Qs ks n.kd∧(n.row=some r∨n.row=none∧r.2.2.2=[]),?_,?_⟩
    · refine ⟨_,rfl,rfl,_,rfl,?_⟩
      cases hrow:n.row with
      | some r=>exact Wa (fun z=>nomatch z) ⟨_,r,rfl,Same.refl _,(hAn.ro r hrow).1,.inl rfl⟩
      | none =>
        have hW3:=hW.same g3
        refine Xm rfl ?_
        refine ⟨_,rfl,lw,wts ks,rfl,wdA hW3,wdB hW3,wdC hWF.ok,wdD hWF.ok,fun d hd=>?_⟩
        have k4:=Qf hd (.dK (wkv ks))
        have hN4:=hN3.same k4
        have hR4:=((hW3.same k4).2 kd hkd).2
        refine ⟨_,rfl,_,rfl,ln,_,_,_,rfl,rfl,hN4.l,Zz hn,n.a,_,0,_,rfl,rfl,hN4.a _ _ hn,rfl,d,.ref kd.2.2.1,rfl,Xc Qb hfd,kd.2.2.1,rfl,⟨_,hR4.1⟩,fun acc hacc=>?_⟩
        refine ZT (K:=K) (xs:=kd.2.2.2.map fun t=>V.ref t.1) (cs:=[]) (te:=Zf 0) (fun j ys H'=>∃ us:List PNx,ys=us.map (fun r=>V.ref r.1)∧H' acc=some (.lst ys)∧Same H3 H'∧(∀ r ∈ us,r ∈ kd.2.2.2∧r.2.2.2=[])∧us.length≤j∧∀ (m:Nat) r,m < j→kd.2.2.2[m]?=some r→r.2.2.2=[]→us≠[])
          ⟨[],rfl,Qb,k4.trans (Qf hacc _),fun r hr=>(nomatch hr),Nat.le_refl _,fun m r hm=>absurd hm (by omega)⟩ ?_ ?_ ?_
        · rintro j ys H' _ ⟨_,_,_,g,_⟩
          exact (((hW3.same g).2 kd hkd).2).1
        · rintro j x ys H8 hj hx ⟨us,rfl,hy,g8,hus,hul,hune⟩
          have hjr:j < kd.2.2.2.length:=by simpa using hj
          obtain rfl:x=.ref kd.2.2.2[j].1:=by
            rw [List.getElem?_map,List.getElem?_eq_getElem hjr] at hx
            exact (Option.some.inj hx).symm
          obtain ⟨hr1,hr2⟩:=(((hW3.same g8).2 kd hkd).2).2 _ (List.getElem_mem hjr)
          have h10:=hro.len
          refine ⟨_,rfl,kd.2.2.2[j].1,_,1,_,rfl,rfl,hr1,rfl,(by show 0≤sizeLine;decide),fun pt hpt=>?_⟩
          have kt:=Qf hpt (.tup [])
          have lay1:(PyData.tuple (kd.2.2.2[j].2.2.2.map PyData.str)).canLay0=true:=by simp only [PyData.canLay0];exact Z3 _ (hro.kn _ (List.getElem_mem hjr))
          refine ⟨_,.tuple [],.tup (kt.seqT hr2) (YD _),.tup (SqT.of Qb) .nil,lay1,by simp [PyData.canLay0,PyData.canLayAll0],room _ (Nat.le_trans (Nat.min_le_right _ _) (by simp [PyData.depth,PyData.depthAll])),_,rfl,?_⟩
          rw [if_neg Bool.false_ne_true,XY]
          refine Y8 (fun cb=>?_) (fun cb=>?_)
          · have he:kd.2.2.2[j].2.2.2=[]:=by simpa using cb
            refine ⟨_,rfl,Qw hj (kt _ _ hy) (by rw [List.length_map];omega) ⟨us ++ [kd.2.2.2[j]],by rw [List.map_append];rfl,Qb,fun z u e=>?_,fun r hr=>?_,by rw [List.length_append,List.length_singleton];omega,fun _ _ _ _ _=>by simp⟩⟩
            · rw [Qg (Qh (k4 _ _ e) hacc)];exact kt _ _ (g8 _ _ e)
            · rcases List.mem_append.mp hr with hr | hr
              · exact hus r hr
              · have:r=kd.2.2.2[j]:=by simpa using hr
                rw [this];exact ⟨List.getElem_mem hjr,he⟩
          · have he:kd.2.2.2[j].2.2.2≠[]:=by simpa using cb
            refine Yj hj ⟨us,rfl,kt _ _ hy,g8.trans kt,hus,by omega,fun m r hm hmr hre=>?_⟩
            by_cases hmj:m=j
            · subst hmj
              rw [List.getElem?_eq_getElem hjr] at hmr
              obtain rfl:=Option.some.inj hmr
              exact absurd hre he
            · exact hune m r (by omega) hmr hre
        rintro ys H8 ⟨us,rfl,hy,g8,hus,hul,hune⟩
        rw [List.length_map] at hune
        have hue:us≠[]:=by
          obtain ⟨r,hr,hre⟩:=(hWF.kf kd hkd).bare
          obtain ⟨m,hm,e⟩:=List.getElem_of_mem hr
          exact hune m r hm (by rw [List.getElem?_eq_getElem hm,e]) hre
        have hup:0 < us.length:=List.length_pos_iff.mpr hue
        have hN8:=hN3.same g8
        have eul:(us.map fun r=>V.ref r.1).length=us.length:=List.length_map ..
        refine ⟨_,rfl,_,rfl,_,rfl,ln,_,_,_,rfl,rfl,hN8.l,Zz hn,n.a,_,3,_,rfl,rfl,hN8.a _ _ hn,rfl,_,rfl,n.mr,_,rfl,by omega,by omega,fun z z0 z1=>⟨_,rfl,acc,_,rfl,.inl (SqL.of hy),_,_,rfl,rfl,(by rw [eul];omega),?_⟩⟩
        obtain ⟨y,hyn,hat⟩:=ZA (xs:=us.map fun r=>V.ref r.1) (k:=((us.map fun r=>V.ref r.1).length:Int)) rfl (by rw [eul];exact hup) z
        obtain ⟨r,hr,rfl⟩:=List.mem_map.mp hyn
        exact ⟨acc,_,_,_,rfl,rfl,SqL.of hy,hat,_,r,rfl,g8,by rw [erow];exact (hus r hr).1,.inr ⟨rfl,(hus r hr).2⟩⟩
    rintro σ H4 ⟨c5',r,rfl,g4,hrm,hrc⟩
    have hN4:=hN3.same g4
    have hlt4:=g4 _ _ hlt3
    have hR4:RowAt K H4 r:=((((hW.same (g3.trans g4)).2 kd hkd).2).2 r (by rw [← erow];exact hrm))
    refine ⟨_,rfl,r.1,_,0,_,rfl,rfl,hR4.1,rfl,_,rfl,_,rfl,ln,_,_,_,rfl,rfl,hN4.l,Zz hn,n.a,_,3,_,rfl,rfl,hN4.a _ _ hn,rfl,_,rfl,_,rfl,ln,_,_,_,rfl,rfl,hN4.l,Zz hn,n.a,_,4,_,rfl,rfl,hN4.a _ _ hn,rfl,n.cl,rfl,⟨_,hN4.c _ _ hn⟩,fun acc hacc=>?_⟩
    have hlta:lt≠acc:=Qh hlt4 hacc
    have hch:n.ch.length=r.2.2.2.length∧Kid (sg ns) k n r:=by
      rcases hrc with hrow | ⟨hrow,hre⟩
      · obtain ⟨_,h2,h3⟩:=hAn.ro r hrow
        have:wOf n=r.2.2.2.length:=by unfold wOf;rw [hrow]
        exact ⟨h2.trans this,h3⟩
      · have hce:=hAn.no hrow
        refine ⟨by rw [hce,hre];rfl,fun a c hac=>?_⟩
        rw [hce] at hac
        simp at hac
    have hrl:r.2.2.2.length≤4:=hro.kl r (by rw [← erow];exact hrm)
    have hul:=hts.length
    refine ZT (K:=K) (xs:=NI n.ch) (cs:=[some (.ref lt)]) (tt:=fun _ H Q=>Q true H) (fun j ys H'=>∃ bs:List (Tree Str),TrAll K H' ys bs∧bs.length=j∧(∀ (a:Nat) b c,bs[a]?=some b→n.ch[a]?=some c→ts[c - (k + 1)]?=some b)∧H' acc=some (.lst ys)∧Same H4 H')
      ⟨[],.nil,rfl,fun a b c h=>by simp at h,Qb,Qf hacc _⟩ ?_ ?_ ?_
    · rintro j ys H' _ ⟨_,_,_,_,_,g⟩
      exact (hN4.same g).c _ _ hn
    · rintro j x ys H5 hj hx ⟨bs,hbs,hbl,hbc,hy,g5⟩
      have hjc:j < n.ch.length:=by simpa using hj
      have hcj:n.ch[j]?=some n.ch[j]:=List.getElem?_eq_getElem hjc
      obtain rfl:x=.int ((n.ch[j]:Nat):Int):=by
        rw [List.getElem?_map,hcj] at hx
        exact (Option.some.inj hx).symm
      generalize n.ch[j]=c at hcj
      obtain ⟨hkc,kk,hsg,_⟩:=hch.2 j c hcj
      have hcn:c < ns.length:=by
        have:=(List.getElem?_eq_some_iff.mp hsg).1
        simpa using this
      have htc:ts[c - (k + 1)]?=some ts[c - (k + 1)]:=List.getElem?_eq_getElem (by omega)
      generalize ts[c - (k + 1)]=t at htc
      obtain ⟨u,hu,hut⟩:=hts.get htc
      have hyl:=hbs.length
      refine Q7 ⟨_,rfl,_,rfl,lt,_,_,_,rfl,rfl,SqL.of (g5 _ _ hlt4),O0 hkc hu,Qw hj hy (by omega) ⟨bs ++ [t],?_,by rw [List.length_append,List.length_singleton,hbl],fun a b c' h1 h2=>?_,Qb,fun z u e=>?_⟩⟩
      · exact TrAll.append (hbs.mono fun _ _ h=>h.put hy) (.cons (hut.mono fun _ _ h=>((g4.trans g5).seqT h).put hy) .nil)
      · rcases QV h1 with ⟨ha,rfl⟩ | ⟨_,h1⟩
        · rw [ha,hbl,hcj] at h2
          obtain rfl:=Option.some.inj h2
          exact htc
        · exact hbc a b c' h1 h2
      · rw [Qg (Qh e hacc)];exact g5 _ _ e
    rintro ys H5 ⟨bs,hbs,hbl,hbc,hy,g5⟩
    have hbl':bs.length=n.ch.length:=by rw [hbl];exact List.length_map ..
    have hyl:=hbs.length
    refine ⟨acc,_,rfl,.inl ⟨SqL.of hy,fun pb hpb=>⟨(by show 3≤sizeLine;decide),fun pt hpt=>?_⟩⟩⟩
    have e1:=Qf hpb (.tup ys)
    have e2:=Qf hpt (.tup [.str r.2.1,.int n.mr,.ref pb])
    have g45:=g4.trans (g5.trans (e1.trans e2))
    have hlt6:=(g5.trans (e1.trans e2)) _ _ hlt4
    refine ⟨_,rfl,_,rfl,lt,_,_,k,rfl,rfl,hlt6,J9 (by rw [List.length_append,List.length_replicate];omega),?_⟩
    rw [OD]
    have hT:TrV K (upd (upd H5 pb (.tup ys)) pt (.tup [.str r.2.1,.int n.mr,.ref pb])) (.ref pt) (.node r.2.1 n.mr bs):=.mk (SqT.of Qb) (e2.seqT (SqT.of Qb)) (hbs.mono fun _ _ h=>(e1.trans e2).seqT h) (by omega)
    refine ⟨_,_,_,.ref pt :: us,.node r.2.1 n.mr bs :: ts,rfl,fun z u e=>?_,?_,.cons (hT.mono fun _ _ h=>h.put hlt6) (hts.mono fun _ _ h=>(g45.seqT h).put hlt6),by rw [List.length_cons,htl],fun j n' t hn' ht=>?_⟩
    · rw [Qg (Qh e hlt)];exact g45 _ _ (g3 _ _ e)
    · rw [Qb,show ns.length - (i + 1)=k by omega]
    · rw [show ns.length - (i + 1)=k by omega] at hn'
      cases j with
      | succ j =>
        obtain ⟨o1,o2,o3⟩:=hok j n' t (by rw [← hn'];congr 1;omega) (by simpa using ht)
        refine ⟨o1,o2,?_⟩
        rw [show ns.length - (i + 1)=k by omega]
        exact o3.cons
      | zero =>
        obtain rfl:n=n':=by
          rw [Nat.add_zero,hn] at hn'
          exact Option.some.inj hn'
        obtain rfl:Tree.node r.2.1 n.mr bs=t:=by simpa using ht
        have hkid:∀ (a:Nat) b s,bs[a]?=some b→r.2.2.2[a]?=some s→isT (QW ks) b s=true∧lv b + (n.lv + 1)≤top + 1:=fun a b s h1 h2=>by
          have hal:a < n.ch.length:=by rw [← hbl'];exact (List.getElem?_eq_some_iff.mp h1).1
          have hca:n.ch[a]?=some n.ch[a]:=List.getElem?_eq_getElem hal
          generalize n.ch[a]=c at hca
          obtain ⟨hkc,kk,hsg,hkk⟩:=hch.2 a c hca
          rw [h2] at hkk
          obtain rfl:=Option.some.inj hkk
          have hcb:=hbc a b c h1 hca
          unfold sg at hsg
          rw [List.getElem?_map] at hsg
          cases hnc:ns[c]? with
          | none=>rw [hnc] at hsg;cases hsg
          | some m =>
            rw [hnc] at hsg
            have em:(m.kd,m.lv)=(s,n.lv + 1):=Option.some.inj hsg
            have:=hok (c - (k + 1)) m b (by rw [show k + 1 + (c - (k + 1))=c by omega];exact hnc) hcb
            rw [show m.kd=s from congrArg Prod.fst em,show m.lv=n.lv + 1 from congrArg Prod.snd em] at this
            exact ⟨this.1,this.2.1⟩
        have hbr:r.2.2.2.length=bs.length:=by rw [hbl',hch.1]
        refine ⟨?_,?_,?_⟩
        · rw [L0 (QW ks) rfl,Js (by rw [erow];exact hro) hrm]
          simp only [Bool.and_eq_true,decide_eq_true_eq]
          exact ⟨hbr,VA hbr fun a b s h1 h2=>(hkid a b s h1 h2).1⟩
        · rw [Zn]
          have hl2:=hAn.l2
          have:lvs bs≤top - n.lv:=Vb fun b hb=>by
            obtain ⟨a,ha,e⟩:=List.getElem_of_mem hb
            have:=(hkid a b _ (by rw [List.getElem?_eq_getElem ha,e]) (List.getElem?_eq_getElem (by omega))).2
            omega
          show 1 + lvs bs + n.lv≤top + 1
          omega
        · rw [show ns.length - (i + 1)=k by omega]
          refine ⟨hbl',fun a b c h1 h2=>?_,r.2.2.2,Js (by rw [erow];exact hro) hrm,fun j c hj=>by
            obtain ⟨_,kk,z1,z2⟩:=hch.2 j c hj
            exact ⟨kk,_,z1,z2⟩⟩
          obtain ⟨hkc,_⟩:=hch.2 a c h2
          refine ⟨by omega,?_⟩
          rw [show c - k=(c - (k + 1))+1 by omega,List.getElem?_cons_succ]
          exact hbc a b c h1 h2
  · rintro σ H3 ⟨c3,c4,c5,us,ts,rfl,g3,hlt3,hts,htl,hok⟩
    rw [Nat.sub_self] at hlt3 hok
    exact ⟨_,rfl,q lt H3 us ts g3 (SqL.of hlt3) hts htl fun j n t hn ht=>by
      have:=hok j n t (by rw [Nat.zero_add];exact hn) ht
      have h1:=(hA _ _ hn).l1
      have h2:=this.2.1
      have h3:=this.2.2
      rw [Nat.zero_add] at h3
      exact ⟨this.1,by omega,h3⟩⟩
end
end K22
namespace K22
open PySem L2 TM TT K9 K11
def Zd (k:KdT):Str × List PNx:=(k.2.1,k.2.2.2)
theorem UV {hs ks:List KdT} (e:hs.map Zd=ks.map Zd) (z:Str):Qs hs z=Qs ks z:=by
  have aux:∀ l:List KdT,Qs l z=(((l.map Zd).find? fun p=>decide (p.1=z)).map (·.2)).getD []:=fun l=>by
    unfold Qs
    rw [List.find?_map,Option.map_map]
    rfl
  rw [aux,aux,e]
theorem Ny {hs ks:List KdT} (e:hs.map Zd=ks.map Zd):QW hs=QW ks:=by
  funext k n
  unfold QW
  rw [UV e]
theorem Lg {hs ks:List KdT} (e:hs.map Zd=ks.map Zd):ruleK hs=ruleK ks:=by
  funext m n
  unfold ruleK
  rw [UV e]
theorem WoodOk.of {hs ks:List KdT} (h:WoodOk ks) (e:hs.map Zd=ks.map Zd):WoodOk hs:=by
  have e1:(hs.map fun k=>k.2.1)=ks.map fun k=>k.2.1:=by
    have:=congrArg (List.map Prod.fst) e
    rw [List.map_map,List.map_map] at this
    exact this
  refine ⟨by rw [e1];exact h.nd,?_,fun k hk=>?_⟩
  · have:=congrArg List.length e
    rw [List.length_map,List.length_map] at this
    rw [this];exact h.len
  · have hm:Zd k ∈ ks.map Zd:=by rw [← e];exact List.mem_map.mpr ⟨k,hk,rfl⟩
    obtain ⟨k',hk',e'⟩:=List.mem_map.mp hm
    have:k'.2.2.2=k.2.2.2:=congrArg (fun p:Str × List PNx=>p.2) e'
    rw [← this]
    exact h.rows k' hk'
theorem TurnOk.of {T:Tu} {ms ms':List MdT} {hs:List KdT} (h:TurnOk ms T) (e:hs.map Zd=T.ks.map Zd) (em:mds ms'=mds ms):TurnOk ms' { T with ks:=hs }:=by
  refine ⟨WoodOk.of h.wo e,em.trans h.me,⟨fun m hm=>?_,h.ok.st⟩,?_⟩
  · have:=h.ok.rf m hm
    unfold Zx at this ⊢
    rw [show ({ T with ks:=hs }:Tu).ks=hs from rfl,UV e]
    exact this
  · obtain ⟨k,hk,hkk⟩:=h.k0
    have h1:(hs.map Zd)[0]?=some (Zd k):=by rw [e,List.getElem?_map,hk];rfl
    rw [List.getElem?_map] at h1
    cases hh:hs[0]? with
    | none=>rw [hh] at h1;cases h1
    | some k' =>
      rw [hh] at h1
      have e2:Zd k'=Zd k:=Option.some.inj h1
      exact ⟨k',rfl,(congrArg Prod.fst e2).trans hkk⟩
def WR (K:PySem.W.Frag):Sp:=fun vs H Q _=>∃ (tu wd lm:Addr) (sv:V) (ms:List MdT) (T:Tu),vs=[.ref tu]∧TurnAt K H tu wd lm sv ms T∧WoodOk T.ks∧ms.length≤10 ∧
  ∀ (tu' wd' lm':Addr) (hs:List KdT) (ms':List MdT) (H':Hp),Same H H'→TurnAt K H' tu' wd' lm' sv ms' { T with ks:=hs }→hs.map Zd=T.ks.map Zd→mds ms'=mds ms→Q (.ref tu') H'
abbrev Xr (K:PySem.W.Frag):List V→Hp→VK→Prop:=fun xs H Q=>∃ p ys,xs=[.ref p]∧(SqL K H p ys∨SqT K H p ys)∧∀ l,H l=none→Q (.ref l) (upd H l (.lst ys))
section
variable {P:Program} {w:World} {K:PySem.W.Frag} {mg:Str→Option Value} {base:Heap} {f:Addr} {fd:FuncData}
theorem MA:FnScope ["_law_turning_here", "_law_wood_here"] ["_law_turning_here"] (defScope G8):=⟨rfl,rfl,rfl,by decide +kernel,rfl,by decide +kernel,by decide +kernel⟩
theorem Nv (F:Fun K "_law_copy" "_law_copy" G8 f fd) (G:Gm mg):FnOk P w K mg base CX0 1 f fd ["_law_turning_here"] (WR K):=by
  refine F.ok MA (fun vs H Q E h=>?_) (fun cdv A outer s H vs Q E hr h=>?_)
  · obtain ⟨tu,wd,lm,sv,ms,T,rfl,_⟩:=h
    rfl
  obtain ⟨tu,wd,lm,sv,ms,T,rfl,hT,hO,hm10,q⟩:=h
  refine ⟨_,(Qe (ZC (i:=1) (CompG.many (xs:=["_law_kind", "_law_rows"]) (caps:=[]) (cap:=[]) (cs:=[]) rfl rfl (by decide +kernel) (by decide +kernel) (by decide +kernel) (by decide +kernel) (by decide +kernel) (by decide +kernel) rfl rfl rfl) rfl (QY (Qj Ql (pv 0) Qd (fun _ _=>rfl))) (X2 (CompG.many (xs:=["_law_kind", "_law_rows"]) (caps:=[]) (cap:=[]) (cs:=[]) rfl rfl (by decide +kernel) (by decide +kernel) (by decide +kernel) (by decide +kernel) (by decide +kernel) (by decide +kernel) rfl rfl rfl) rfl) (fun _ _ _ _=>QX) (fun _ _ _ _=>(QJ (Qa (pv 0) (Qa (QB (r:=Xr K) YQ rfl G.lst PyProof.Rows.boot_list (Qa (pv 1) Qc)) Qc)))) MA.nd rfl rfl)
    (Qi (Qp (QJ (Qa (pv 1) (Qa (Qj Ql (pv 0) Qd (fun _ _=>rfl)) (Qa (QI (CompG.many (xs:=["_law_kind", "_law_rules"]) (caps:=[]) (cap:=[]) (cs:=[]) rfl rfl (by decide +kernel) (by decide +kernel) (by decide +kernel) (by decide +kernel) (by decide +kernel) (by decide +kernel) rfl rfl rfl) rfl (QY (Qj Ql (pv 0) Qd (fun _ _=>rfl))) (X2 (CompG.many (xs:=["_law_kind", "_law_rules"]) (caps:=[]) (cap:=[]) (cs:=[]) rfl rfl (by decide +kernel) (by decide +kernel) (by decide +kernel) (by decide +kernel) (by decide +kernel) (by decide +kernel) rfl rfl rfl) rfl) (fun _ _ _ _=>QX) (fun _ _ _ _=>(QJ (Qa (pv 0) (Qa (QB (r:=Xr K) YQ rfl G.lst PyProof.Rows.boot_list (Qa (pv 1) Qc)) Qc))))) Qc))))))),?_⟩
  refine ⟨_,rfl,tu,_,0,_,rfl,rfl,hT.tu,rfl,wd,rfl,⟨_,hT.w.1⟩,fun lx hlx=>?_⟩
  refine Xt (K:=K) (xs:=T.ks.map fun k=>V.ref k.1) (cs:=[]) (tt:=fun _ H Q=>Q true H) (te:=Mm (Q3 (Zf 0) (Q3 (tCB (Xr K) (Q3 (Zf 1) UA)) UA))) (fun j ys H'=>∃ hs:List KdT,ys=hs.map (fun k=>V.ref k.1)∧hs.map Zd=(T.ks.take j).map Zd∧(∀ k ∈ hs,SqT K H' k.1 [.str k.2.1,.ref k.2.2.1]∧(H' k.2.2.1=some (.lst (k.2.2.2.map fun t=>V.ref t.1))∧k.2.2.1≠lx)∧∀ t ∈ k.2.2.2,RowAt K H' t)∧H' lx=some (.lst ys)∧Same H H')
    ⟨[],rfl,rfl,fun k hk=>(nomatch hk),Qb,Qf hlx _⟩ ?_ ?_ ?_
  · rintro j ys H' _ ⟨hs,_,_,_,_,g⟩
    exact (hT.w.same g).1
  · rintro j x ys H' hj hx ⟨hs,rfl,hkey,hat,hya,g⟩
    have hjk:j < T.ks.length:=by simpa using hj
    obtain rfl:x=.ref T.ks[j].1:=by
      rw [List.getElem?_map,List.getElem?_eq_getElem hjk] at hx
      exact (Option.some.inj hx).symm
    obtain ⟨hk1,hkr⟩:=(hT.w.same g).2 _ (List.getElem_mem hjk)
    have hhl:hs.length=j:=by
      have:=congrArg List.length hkey
      rw [List.length_map,List.length_map,List.length_take] at this
      omega
    have hkl:=hO.len
    refine ⟨T.ks[j].1,_,_,rfl,hk1,Q7 ⟨_,rfl,_,rfl,T.ks[j].2.2.1,_,rfl,.inl hkr.1,fun l2 hl2=>⟨(by show 2≤sizeLine;decide),fun p2 hp2=>?_⟩⟩⟩
    have e1:=Qf hl2 (.lst (T.ks[j].2.2.2.map fun t=>V.ref t.1))
    have e2:=Qf hp2 (.tup [.str T.ks[j].2.1,.ref l2])
    have e12:=e1.trans e2
    have hya2:=e12 _ _ hya
    have hl2x:l2≠lx:=fun z=>by rw [z,hya] at hl2;cases hl2
    refine Qw (ys:=hs.map fun k=>V.ref k.1) hj hya2 (by rw [List.length_map];omega) ⟨hs ++ [(p2,T.ks[j].2.1,l2,T.ks[j].2.2.2)],by simp,?_,fun k hk=>?_,Qb,fun x u e=>by rw [Qg (Qh e hlx)];exact e12 _ _ (g _ _ e)⟩
    · rw [List.map_append,hkey,List.take_add_one,List.getElem?_eq_getElem hjk,List.map_append]
      rfl
    · rcases List.mem_append.mp hk with z | z
      · obtain ⟨a1,⟨a2,a3⟩,a4⟩:=hat k z
        exact ⟨(e12.seqT a1).put hya2,⟨by rw [Qg a3];exact e12 _ _ a2,a3⟩,fun t ht=>⟨(e12.seqT (a4 t ht).1).put hya2,(e12.seqT (a4 t ht).2).put hya2⟩⟩
      · have:k=(p2,T.ks[j].2.1,l2,T.ks[j].2.2.2):=by simpa using z
        rw [this]
        refine ⟨SqT.put (SqT.of Qb) hya2,⟨by rw [Qg hl2x];exact e2 _ _ Qb,hl2x⟩,fun t ht=>⟨(e12.seqT (hkr.2 t ht).1).put hya2,(e12.seqT (hkr.2 t ht).2).put hya2⟩⟩
  rintro ys H1 ⟨hs,rfl,hkey,hat,hya,g1⟩
  rw [List.length_map,List.take_length] at hkey
  have hWH:WoodAt K H1 lx hs:=⟨SqL.of hya,fun k hk=>by
    obtain ⟨a1,⟨a2,_⟩,a4⟩:=hat k hk
    exact ⟨a1,SqL.of a2,a4⟩⟩
  have hT1:=hT.same g1
  refine ⟨_,rfl,_,rfl,tu,_,1,_,rfl,rfl,hT1.tu,rfl,_,rfl,tu,_,2,_,rfl,rfl,hT1.tu,rfl,lm,rfl,⟨_,hT1.m.1⟩,fun ly hly=>?_⟩
  refine Xt (K:=K) (xs:=ms.map fun k=>V.ref k.1) (cs:=[]) (tt:=fun _ H Q=>Q true H) (te:=Mm (Q3 (Zf 0) (Q3 (tCB (Xr K) (Q3 (Zf 1) UA)) UA))) (fun j ys H'=>∃ ns:List MdT,ys=ns.map (fun k=>V.ref k.1)∧ns.map MdT.md=(ms.take j).map MdT.md∧(∀ m ∈ ns,SqT K H' m.1 [.str m.2.1,.ref m.2.2.1]∧(H' m.2.2.1=some (.lst m.2.2.2.1)∧m.2.2.1≠ly)∧TmAll K H' m.2.2.2.1 m.2.2.2.2)∧H' ly=some (.lst ys)∧Same H1 H')
    ⟨[],rfl,rfl,fun k hk=>(nomatch hk),Qb,Qf hly _⟩ ?_ ?_ ?_
  · rintro j ys H' _ ⟨hs,_,_,_,_,g⟩
    exact (hT1.m.same g).1
  · rintro j x ys H' hj hx ⟨ns,rfl,hkm,hat,hyb,g⟩
    have hjk:j < ms.length:=by simpa using hj
    obtain rfl:x=.ref ms[j].1:=by
      rw [List.getElem?_map,List.getElem?_eq_getElem hjk] at hx
      exact (Option.some.inj hx).symm
    obtain ⟨hk1,hk2,hk3⟩:=(hT1.m.same g).2 _ (List.getElem_mem hjk)
    have hhl:ns.length=j:=by
      have:=congrArg List.length hkm
      rw [List.length_map,List.length_map,List.length_take] at this
      omega
    refine ⟨ms[j].1,_,_,rfl,hk1,Q7 ⟨_,rfl,_,rfl,ms[j].2.2.1,_,rfl,.inl hk2,fun l2 hl2=>⟨(by show 2≤sizeLine;decide),fun p2 hp2=>?_⟩⟩⟩
    have e1:=Qf hl2 (.lst ms[j].2.2.2.1)
    have e2:=Qf hp2 (.tup [.str ms[j].2.1,.ref l2])
    have e12:=e1.trans e2
    have hyb2:=e12 _ _ hyb
    have hl2x:l2≠ly:=fun z=>by rw [z,hyb] at hl2;cases hl2
    refine Qw (ys:=ns.map fun k=>V.ref k.1) hj hyb2 (by rw [List.length_map];omega) ⟨ns ++ [(p2,ms[j].2.1,l2,ms[j].2.2.2.1,ms[j].2.2.2.2)],by simp,?_,fun k hk=>?_,Qb,fun x u e=>by rw [Qg (Qh e hly)];exact e12 _ _ (g _ _ e)⟩
    · rw [List.map_append,hkm,List.take_add_one,List.getElem?_eq_getElem hjk,List.map_append]
      rfl
    · rcases List.mem_append.mp hk with z | z
      · obtain ⟨a1,⟨a2,a3⟩,a4⟩:=hat k z
        exact ⟨(e12.seqT a1).put hyb2,⟨by rw [Qg a3];exact e12 _ _ a2,a3⟩,a4.mono fun _ _ h=>(e12.seqT h).put hyb2⟩
      · have:k=(p2,ms[j].2.1,l2,ms[j].2.2.2.1,ms[j].2.2.2.2):=by simpa using z
        rw [this]
        exact ⟨SqT.put (SqT.of Qb) hyb2,⟨by rw [Qg hl2x];exact e2 _ _ Qb,hl2x⟩,hk3.mono fun _ _ h=>(e12.seqT h).put hyb2⟩
  rintro ys H2 ⟨ns,rfl,hkm,hat2,hyb,g2⟩
  rw [List.length_map,List.take_length] at hkm
  refine ⟨(by show 3≤sizeLine;decide),fun p hp=>?_⟩
  have k3:=Qf hp (.tup [.ref lx,sv,.ref ly])
  have g23:=g2.trans k3
  exact q p lx ly hs ns _ (g1.trans g23) ⟨SqT.of Qb,hWH.same g23,⟨SqL.of (k3 _ _ hyb),fun m hm=>by
    obtain ⟨a1,⟨a2,_⟩,a4⟩:=hat2 m hm
    exact ⟨k3.seqT a1,SqL.of (k3 _ _ a2),a4.mono fun _ _=>k3.seqT⟩⟩,hT1.s.mono fun _ _=>g23.seqT⟩ hkey hkm
end
end K22
namespace L2
open PySem
def SameX (x:Addr) (H H':Hp):Prop:=∀ b u,b≠x→H b=some u→H' b=some u
theorem SameX.trans {x:Addr} {H H1 H2:Hp} (a:SameX x H H1) (b:SameX x H1 H2):SameX x H H2:=fun c u n e=>b c u n (a c u n e)
theorem SameX.of {x:Addr} {H H':Hp} (h:Same H H'):SameX x H H':=fun b u _ e=>h b u e
theorem SameX.upd {x:Addr} {H:Hp} {o:HO}:SameX x H (upd H x o):=fun b u n e=>by rw [Qg n];exact e
end L2
namespace L2
open PySem PySem.Spec PyProof.Rows
def NA (e:Expr):Arguments:=match e with
  | .Lambda a _ _ _=>a
  | _=>{ posonlyargs:=[],args:=[],vararg:=none,kwonlyargs:=[],kw_defaults:=[],kwarg:=none,defaults:=[] }
def Vc (e:Expr):Expr:=match e with
  | .Lambda _ b _ _=>b
  | _=>e
def Q4 (e:Expr):Scope:=match e with
  | .Lambda _ _ s _=>s
  | _=>{ kind:=.function,names:=[],isGenerator:=false,isCoroutine:=false }
def ZG (e:Expr):Pos:=match e with
  | .Lambda _ _ _ p=>p
  | _=>⟨0,0,0,0⟩
def LR (s:Stmt):Expr:=match (defBody s).getLast? with
  | some (.Return (some e) _)=>e
  | _=>.Name "" ⟨0,0,0,0⟩
def Lq (e:Expr) (i:Nat):Expr:=match e with
  | .Call _ as _ _=>as.getD i e
  | _=>e
abbrev Jq (qual:Str) (e:Expr) (pm:Value) (c:Addr) (ctv:Value):FuncData:=PySem.W.kla_fn "<lambda>" qual (NA e) (Vc e) (Q4 e) [] pm (.ref c) ctv
def Ge (f:Addr) (fd:FuncData):HO:=.ext fun h=>h.get? f=some { cls:=.type "function", data:=.func fd }
def GV (c:Addr) (qual:Str):HO:=.ext fun h=>h.CodeRec (.ref c) qual
structure LamAt (H:Hp) (f:Addr) (e:Expr):Prop where
  ex:∃ qual pm c ctv,H f=some (Ge f (Jq qual e pm c ctv))∧H c=some (GV c qual)
theorem LamAt.same {H H':Hp} {f:Addr} {e:Expr} (g:Same H H') (h:LamAt H f e):LamAt H' f e:=by
  obtain ⟨q,pm,c,ctv,h1,h2⟩:=h.ex
  exact ⟨q,pm,c,ctv,g _ _ h1,g _ _ h2⟩
def TbS (H:Hp) (T:Addr) (pos:Pos) (qual:Str):Prop:=H T=some (.tbl #[])∨∃ c,H T=some (.tbl #[rawInt pos.line,rawInt pos.col,.ref c])∧H c=some (GV c qual)
theorem TbS.at {H:Hp} {T:Addr} {pos:Pos} {qual:Str} (h:TbS H T pos qual):∃ ps,H T=some (.tbl ps):=by
  rcases h with h | ⟨c,h,_⟩
  · exact ⟨_,h⟩
  · exact ⟨_,h⟩
theorem TbS.same {H H':Hp} {T:Addr} {pos:Pos} {qual:Str} (g:Same H H') (h:TbS H T pos qual):TbS H' T pos qual:=by
  rcases h with h | ⟨c,h,h2⟩
  · exact .inl (g _ _ h)
  · exact .inr ⟨c,g _ _ h,g _ _ h2⟩
theorem TbS.sameX {H H':Hp} {T U:Addr} {pos:Pos} {qual:Str} {ps:Array Value} (hU:H U=some (.tbl ps)) (ne:T≠U) (g:SameX U H H') (h:TbS H T pos qual):TbS H' T pos qual:=by
  rcases h with h | ⟨c,h,h2⟩
  · exact .inl (g _ _ ne h)
  · exact .inr ⟨c,g _ _ ne h,g _ _ (QK h2 hU (by intro z;cases z)) h2⟩
def U4 (mg:Str→Option Value) (base:Heap):Prop:=∃ bm o,mg "__builtins__" = some (.ref bm)∧bm≠builtinsNs∧bm≠mainGlobals∧base.get? bm=some o∧o.cls=.type "module" ∧ o.dict=some builtinsNs∧o.data=.plain
def Rm (T:Addr) (qual:Str) (e:Expr):TE:=fun σ H Q=>TbS H T (ZG e) qual∧∀ f H',SameX T H H'→H f=none→LamAt H' f e→TbS H' T (ZG e) qual→Q (.ref f) H'
section
variable {X:Cx}
theorem Vn {P:Program} {w:World} {H:Hp} {h:Heap} {f:Addr} {fd:FuncData} (e:h.get? f=some { cls:=.type "function", data:=.func fd }):ObjOk P w H h f (Ge f fd):=⟨e,⟨_,e⟩,fun _ _ e1 k=>k _ e1⟩
theorem MD {P:Program} {w:World} {H:Hp} {h:Heap} {c:Addr} {qual:Str} (e:h.CodeRec (.ref c) qual):ObjOk P w H h c (GV c qual):=by
  refine ⟨e,?_,fun h1 h2 e1 k=>?_⟩
  · obtain ⟨c',oc,vs,tq,z,hoc,_⟩:=e
    cases z
    exact ⟨_,hoc⟩
  · obtain ⟨c',oc,vs,tq,z,hoc,r⟩:=e1
    cases z
    exact ⟨c,oc,vs,tq,rfl,k _ hoc,r⟩
theorem Wz {a:Arguments} {b:Expr} {sc:Scope} {pos:Pos} {c T:Addr} (hcode:X.env.code=.ref c) (hC:PySem.W.codeHdIn X.K c T=true) (hB:U4 X.mg X.base) (hcl:closureFor sc X.env=pure []:=by rfl) (hdef:defaultsOf a X.env=([],[]):=by rfl) :
    PE X (.Lambda a b sc pos) (Rm T (X.env.qual ++ "<lambda>") (.Lambda a b sc pos)):=by
  intro pins s σ H Q I h
  obtain ⟨ht,q⟩:=h
  obtain ⟨ps0,hT⟩:=ht.at
  obtain ⟨bm,ob,b1,b2,b3,b4,b5,b6,b7⟩:=hB
  have hbT:bm≠T:=fun z=>by have:=(I.bs _ _ b4).2;rw [z,hT] at this;cases this
  have hg:s.heap.Ns mainGlobals X.mg:=I.mod.glob.keeps I.bk
  have hgT:mainGlobals≠T:=fun z=>by
    obtain ⟨o,es,ep,e,_⟩:=I.mod.glob
    have:=(I.bs _ _ e).2
    rw [z,hT] at this;cases this
  have hb:s.heap.BuiltinsAt X.mg T:=⟨bm,ob,b1,b2,b3,hbT,I.bk _ _ b4,b5,b6,b7⟩
  have hCd:PySem.W.CodeHd s.heap c T:=PySem.W.codeHd_of_K I.kIn hC
  have hLT:X.env.locals≠T:=fun z=>by have:=I.free;rw [z,hT] at this;cases this
  refine PySem.W.kla_eval hdef ?_
  rcases ht with h0 | ⟨c',h0,hc'⟩
  · have hP:s.heap.get? T=some (PySem.W.tabObj #[]):=I.hok T _ h0
    refine PySem.W.kla_makeFunction (mg:=X.mg) hcl I.ok.glob hg hcode hCd hP trivial rfl hgT hb fun c' ctv h' tk hx hge hlt hrec htb=>?_
    obtain ⟨qual,hqual⟩ : ∃ qual,qual=X.env.qual ++ "<lambda>" := ⟨_,rfl⟩
    rw [← hqual] at hrec ⊢
    have hHc:H c'=none:=I.hok.fresh hge
    have hHf:H h'.objs.size=none:=I.hok.fresh (Nat.le_of_lt (Nat.lt_of_le_of_lt hge hlt))
    have nTc:T≠c':=Qh h0 hHc
    have nTf:T≠h'.objs.size:=Qh h0 hHf
    have ncf:c'≠h'.objs.size:=Nat.ne_of_lt hlt
    obtain ⟨fd,hfd⟩ : ∃ fd:FuncData,fd=Jq qual (.Lambda a b sc pos) ((X.mg "__name__").getD .none) c' ctv:=⟨_,rfl⟩
    have hob:PySem.W.kla_obj "<lambda>" qual a b sc [] ((X.mg "__name__").getD .none) c' ctv={ cls:=.type "function", data:=.func fd }:=by rw [hfd];rfl
    rw [hob]
    obtain ⟨ps,hps⟩ : ∃ ps:Array Value,ps=#[rawInt pos.line,rawInt pos.col,.ref c']:=⟨_,rfl⟩
    have htb':h'.get? T=some { cls:=.none,data:=.fields ps }:=by rw [hps];exact htb
    obtain ⟨H',hH'⟩ : ∃ H':Hp,H'=upd (upd (upd H T (.tbl ps)) c' (GV c' qual)) h'.objs.size (Ge h'.objs.size fd):=⟨_,rfl⟩
    have eF:H' h'.objs.size=some (Ge h'.objs.size fd):=by rw [hH'];exact Qb
    have eC:H' c'=some (GV c' qual):=by rw [hH',Qg ncf];exact Qb
    have eT:H' T=some (.tbl ps):=by rw [hH',Qg nTf,Qg nTc];exact Qb
    have eO:∀ x,x≠T→x≠c'→x≠h'.objs.size→H' x=H x:=fun x n1 n2 n3=>by rw [hH',Qg n3,Qg n2,Qg n1]
    have eK:∀ x u,H x=some u→x≠T→H' x=some u:=fun x u e n1=>by rw [eO x n1 (Qh e hHc) (Qh e hHf)];exact e
    have hpush:∀ x o,h'.get? x=some o→(h'.push { cls:=.type "function", data:=.func fd }).get? x=some o:=fun x o e=>Heap.get?_push_of_some _ e
    have J:Inv X pins σ H' { s with heap:=h'.push { cls:=.type "function", data:=.func fd },toks:=tk }:=by
      refine I.step (g':=s.gens) (d':=s.drawn) (ch:=[]) (fun _ z=>nomatch z) (fun x o _ _ _ e n=>?_) (fun x o _ _ _ e n=>?_) (fun x o _ e n=>?_) (fun x o _ e=>?_) (fun x xs e=>?_) (fun x o u e=>?_) (fun x qs e=>?_) (fun m hn=>?_) (fun x o e=>?_) I.bare
      · exact hpush _ _ (hx _ _ (fun z=>by rw [z,hT] at n;cases n) e)
      · exact ⟨o.slots,hpush _ _ (hx _ _ (fun z=>by rw [z,hT] at n;cases n) e)⟩
      · have lx:=Heap.lt_size e
        rw [eO x (fun z=>by rw [z,hT] at n;cases n) (Nat.ne_of_lt (Nat.lt_of_lt_of_le lx hge)) (Nat.ne_of_lt (Nat.lt_trans (Nat.lt_of_lt_of_le lx hge) hlt))]
        exact n
      · by_cases z:x=T
        · exact ⟨_,hpush _ _ (z ▸ htb')⟩
        · exact ⟨o,hpush _ _ (hx _ _ z e)⟩
      · exact eK x _ e (QK e h0 (by intro z;cases z))
      · exact eK x _ e (QK e h0 (by intro z;cases z))
      · by_cases z:x=T
        · subst z
          rw [h0] at e
          cases e
          exact ⟨ps,by rw [eT];simp⟩
        · exact ⟨#[],by rw [eK x _ e z];simp⟩
      · exact (hn.extBut hx hLT).push _
      · by_cases z1:x=h'.objs.size
        · subst z1
          rw [eF] at e
          cases e
          exact Vn (Heap.get?_push_size _ rfl)
        by_cases z2:x=c'
        · subst z2
          rw [eC] at e
          cases e
          refine MD ?_
          obtain ⟨c2,oc,vs,tq,z,hoc,r⟩:=hrec
          exact ⟨c2,oc,vs,tq,z,hpush _ _ hoc,r⟩
        by_cases z3:x=T
        · subst z3
          rw [eT] at e
          cases e
          exact hpush _ _ htb'
        rw [eO x z3 z2 z1] at e
        refine (I.hok x o e).stay (fun y u hy r=>?_) (fun y r=>?_) fun y xs r=>?_
        · refine hpush _ _ (hx _ _ (fun z=>?_) r)
          rcases hy with hy | hy
          · exact z3 (hy.symm.trans z)
          · rw [z,hT] at hy;cases hy
        · exact eK y _ r (QK r h0 (by intro z;cases z))
        · exact eK y _ r (QK r h0 (by intro z;cases z))
    refine ⟨.ref h'.objs.size,H',J,rfl,q h'.objs.size H' (fun x u n e=>eK x u e n) hHf ⟨qual,_,c',ctv,by rw [eF,hfd],eC⟩ ?_⟩
    refine .inr ⟨c',?_,by rw [← hqual];exact eC⟩
    rw [eT,hps];rfl
  · have hP:s.heap.get? T=some (PySem.W.tabObj #[rawInt pos.line,rawInt pos.col,.ref c']):=I.hok T _ h0
    have hf:codeAmong pos (#[rawInt pos.line,rawInt pos.col,Value.ref c']:Array Value).toList=some (.ref c'):=by
      show (if ((pos.line:Int) == (pos.line:Int) && (pos.col:Int) == (pos.col:Int))=true then some (Value.ref c') else _)=_
      simp
    refine PySem.W.kla_makeFunctionHit (mg:=X.mg) hcl I.ok.glob hg hcode hCd hP trivial hf hb fun ctv h' tk hk hsz=>?_
    obtain ⟨qual,hqual⟩ : ∃ qual,qual=X.env.qual ++ "<lambda>" := ⟨_,rfl⟩
    rw [← hqual]
    have hHf:H h'.objs.size=none:=I.hok.fresh hsz
    refine ⟨.ref h'.objs.size,upd H h'.objs.size (Ge h'.objs.size (Jq qual (.Lambda a b sc pos) ((X.mg "__name__").getD .none) c' ctv)),I.laid (t':=tk) (fun x o e=>Heap.get?_push_of_some _ (hk _ _ e)) hsz (Vn (Heap.get?_push_size _ rfl)),rfl,?_⟩
    have g:=Qf hHf (Ge h'.objs.size (Jq qual (.Lambda a b sc pos) ((X.mg "__name__").getD .none) c' ctv))
    refine q h'.objs.size _ (SameX.of g) hHf ⟨qual,_,c',ctv,Qb,g _ _ (by rw [hqual];exact hc')⟩ (.inr ⟨c',g _ _ h0,g _ _ hc'⟩)
end
end L2
namespace L2
open PySem PySem.Spec PyProof.Rows
def WL (P:Program) (w:World) (K:PySem.W.Frag) (mg:Str→Option Value) (base:Heap) (k:Nat) (e:Expr) (sp:Sp):Prop :=
  ∀ (f:Addr) (A:Around) (outer:List Env) (s:Shared) (H:Hp) (us:List Value) (vs:List V) (Q:VK) (E:XK),Room k A→Env0 P w K mg base A outer s H→LamAt H f e→Vals vs us→sp vs H Q E →
    codeAny (model P w) A (.call (.ref f) ⟨us,[]⟩) (CR CX0 outer P w H s Q E) s
theorem Xg {P:Program} {w:World} {K:PySem.W.Frag} {mg:Str→Option Value} {base:Heap} {k:Nat} {e:Expr} {N ps:List Str} {sp:Sp} (S:FnScope N ps (Q4 e)) (len:∀ vs H Q E,sp vs H Q E→vs.length=ps.length)
    (hbind:∀ (qual:Str) (pm:Value) (c:Addr) (ctv:Value) (us:List Value),us.length=ps.length→bindArgs (Jq qual e pm c ctv) ⟨us,[]⟩=pure (ps.zip us))
    (hbody:∀ (qual:Str) (f c:Addr) (A:Around) (outer:List Env) (s:Shared) (H:Hp) (vs:List V) (Q:VK) (E:XK),Room k (A.deeper (envOfC qual (Q4 e) s.heap.objs.size f (.ref c)))→sp vs H Q E →
      ∃ t,PE (ZZ CX0 P w K mg base N qual (Q4 e) f (.ref c) A outer s H E).nox (Vc e) t∧t (start N vs) H Q):WL P w K mg base (k + 1) e sp:=by
  intro f A outer s H us vs Q E hr e0 hL r hsp
  obtain ⟨qual,pm,c,ctv,hf,hc⟩:=hL.ex
  have hfo:s.heap.get? f=some { cls:=.type "function", data:=.func (Jq qual e pm c ctv) }:=(e0.hok f _ hf).1
  have hrec:s.heap.CodeRec (.ref c) qual:=(e0.hok c _ hc).1
  have hl:=len _ _ _ _ hsp
  have hul:us.length=ps.length:=by rw [← r.length];exact hl
  have lim:s.heap.NoLimit:=e0.mod.nolimit.keeps fun b o e=>(e0.bs b o e).1
  have hkind:∀ y ∈ ps.zip us,(Q4 e).names.lookup y.1=some .local∨((Q4 e).names.lookup y.1=some .cell∧((cellsFrom (s.heap.objs.size + 1) (Q4 e).names []).lookup y.1).isSome=true):=fun ⟨n,v⟩ hy=>by
    rcases S.par n (List.of_mem_zip hy).1 with q | q
    · exact .inl q
    · exact .inr ⟨q,PySem.W.cellsFrom_some _ _ _ (.inl q)⟩
  refine PySem.W.kla_callFunE hr.depth hfo rfl S.co S.gen rfl hrec ?_
  rw [hbind qual pm c ctv us hul]
  refine wpAny_pure ?_
  refine wpAny_newFunctionEnv_cells S.kind hkind fun env he s1 x=>?_
  subst he
  refine ⟨lim.keeps x.toInCall.keep,PySem.W.kla_codeExpr ?_⟩
  obtain ⟨t,ht,hq⟩:=hbody qual f c A outer s H vs Q E (hr.deeper _) hsp
  have I:Inv (ZZ CX0 P w K mg base N qual (Q4 e) f (.ref c) A outer s H E) [] (start N vs) H s1:=JN S hr.hd e0 hl r x
  refine wpAny_mono (ht.nox [] s1 (start N vs) H _ I hq) (fun u s' hs=>?_) fun e s' hs=>hs
  obtain ⟨v,H',J,rv,q⟩:=hs
  exact ⟨v,H',J.os,J.bare,J.base,J.hok,rv,q⟩
def OI (i:Nat) (e:Expr) (sp:Sp) (t:TA):TE:=fun σ H Q=>∃ f,σ[i]?=some (some (.ref f))∧t σ H fun vs H1=>LamAt H1 f e∧sp vs H1 Q E0
section
variable {X:Cx}
theorem Mr {i:Nat} {x:Str} {e a:Expr} {as:List Expr} {t:TA} {sp:Sp} {k:Nat} {p pos:Pos} (C:WL X.prog X.w X.K X.mg X.base k e sp) (hr:Room k X.A) (ha:PA X (a :: as) t) (hN:X.N[i]?=some x:=by rfl) (hv:Vis X.env.scope x:=by first | exact Or.inl rfl | exact Or.inr (Or.inl rfl) | exact Or.inr (Or.inr rfl))
    (hd:(x == ("__debug__" : Str))=false:=by decide) (hcd:(x == ("__classdict__" : Str))=false:=by decide) (he:starEach (a :: as) X.env=(false,eval a X.env) :: starEach as X.env:=by rfl) (hpl:(backTo pos (starEach as X.env)).any (·.1)=false:=by rfl) :
    PE X (.Call (.Name x p) (a :: as) [] pos) (OI i e sp t):=by
  intro pins s σ H Q I h
  obtain ⟨f,hs,h⟩:=h
  refine wpAny_Call_Name_kw (thn (GB (pos:=p) hN hv hd hcd pins s σ H (fun v H1=>v=.ref f∧H1=H) I ⟨.ref f,hs,rfl,rfl⟩) fun u s1 ⟨v,H1,I1,r1,ev,eH⟩=>?_)
  subst ev eH
  obtain rfl:u=Value.ref f:=r1
  have hw:wpAny (model X.prog X.w) X.A (spliced (backTo pos (starEach (a :: as) X.env))) (fun vs s₁=>(∃ fd,s₁.heap.get? f=some { cls:=.type "function", data:=.func fd })∧wpAny (model X.prog X.w) X.A (call (.ref f) ([] ++ vs)) (EP X pins σ Q) X.xe s₁) X.xe s1:=by
    refine thn (ha pos pins s1 σ H1 _ I1 h) fun us s2 ⟨vs,H2,I2,r2,hL,q2⟩=>⟨?_,?_⟩
    · obtain ⟨qual,pm,c,ctv,hf,hc⟩:=hL.ex
      exact ⟨_,(I2.hok f _ hf).1⟩
    · refine wpAny_call (codeAny_mono (C f X.A X.stack s2 H2 us vs Q E0 hr I2.env0 hL r2 q2) fun r s' hq=>?_)
      cases r with
      | error e=>exact hq.elim
      | ok fl =>
        cases fl with
        | ret u=>exact I2.after hq
        | next=>exact False.elim hq
        | brk=>exact False.elim hq
        | cont=>exact False.elim hq
  rw [he] at hw ⊢
  exact PySem.W.callWith_of (P:=fun h=>∃ fd,h.get? f=some { cls:=.type "function", data:=.func fd }) (by show ((false || (backTo pos (starEach as X.env)).any (·.1)) || false)=false;rw [hpl];rfl)
    (fun h ⟨fd,hf⟩=>⟨.frame,.inl rfl,(PySem.W.Looks.ld (part:=none) hf).andThen .now⟩) (PySem.Calls.evalArgs_plain hw)
end
section
variable {P:Program} {w:World} {K:PySem.W.Frag} {mg:Str→Option Value} {base:Heap}
theorem Vw {x:Str} {f c T:Addr} {oc:Value} {od:Option Addr} {fd:FuncData} {sl:Array (Option Value)} (hn:PySem.W.nsIn K mainGlobals x=some (some (.ref f))) (lk:K.lookup f=some ⟨oc,od,.func fd,sl⟩) (h:PySem.W.tabIn K x=some (c,T)):fd.code=.ref c:=by
  unfold PySem.W.tabIn at h
  rw [hn] at h
  simp only [lk] at h
  split at h
  · rename_i c2 hc
    split at h
    · split at h
      · cases h;exact hc
      · cases h
    · cases h
  · cases h
theorem Fun.okC {x qual:Str} {st:Stmt} {f c T:Addr} {fd:FuncData} {N ps:List Str} {k:Nat} {sp:Sp} (F:Fun K x qual st f fd) (hn:PySem.W.nsIn K mainGlobals x=some (some (.ref f))) (hT:PySem.W.tabIn K x=some (c,T)) (S:FnScope N ps (defScope st)) (len:∀ vs H Q E,sp vs H Q E→vs.length=ps.length)
    (hbody:∀ (A:Around) (outer:List Env) (s:Shared) (H:Hp) (vs:List V) (Q:VK) (E:XK),Room k (A.deeper (envOfC qual (defScope st) s.heap.objs.size f (.ref c)))→sp vs H Q E →
      ∃ t,PSs (ZZ CX0 P w K mg base N qual (defScope st) f (.ref c) A outer s H E).nox (defBody st) t∧t { nx:=fun _ H'=>Q .non H',rt:=Q } (start N vs) H):FnOk P w K mg base CX0 (k + 1) f fd ps sp:=by
  obtain ⟨oc,od,kV,doc,pm,an,cdv,ct,osl,rfl,lk,hcd⟩:=F.ex
  have e:cdv=.ref c:=Vw hn lk hT
  subst e
  refine Vm lk hcd S len fun A outer s H vs Q E hr hsp=>?_
  obtain ⟨t,h,q⟩:=hbody A outer s H vs Q E hr hsp
  exact ⟨t,h.nox,q⟩
end
end L2
namespace L2
open PySem PySem.Spec PyProof.Rows
def ValO (p d:Addr):HO:=.ext fun h=>h.IsValuesView p d
def ItmO (p d:Addr):HO:=.ext fun h=>h.IsItemsView p d
section
variable {X:Cx}
theorem Gu:MtR X "dict.values" (fun x vs H Q=>∃ (d:Addr) (kvs:List (Key × V)),x=.ref d∧vs=[]∧H d=some (.dK kvs)∧∀ p,H p=none→Q (.ref p) (upd H p (ValO p d))):=by
  intro pins s σ H x xs v us Q I rx rv h
  obtain ⟨d,kvs,rfl,rfl,hd,q⟩:=h
  cases rx
  cases rv
  obtain ⟨z,ne,vs,rel,dd⟩:=JI I.hok hd
  refine call_meetsIn PySem.F.slot_dict_values dd.typeIs PySem.F.entry_dict_values (PySem.F.args_dict_values_1 _) (meets_dict_values (Qt X.prog X.w) d ne) ⟨⟨vs,dd⟩,?_⟩
  refine ⟨.ref s.heap.objs.size,_,I.laid (a:=s.heap.objs.size) (o:=ValO s.heap.objs.size d) (t':=s.toks) (fun b o e=>Heap.get?_push_of_some _ e) (Nat.le_refl _) ?_,rfl,q _ (I.hok.fresh (Nat.le_refl _))⟩
  refine ⟨⟨_,Heap.get?_push_size _ rfl,rfl,rfl⟩,⟨_,Heap.get?_push_size _ rfl⟩,fun h1 h2 ⟨o,e,c,dt⟩ k=>⟨o,k _ e,c,dt⟩⟩
theorem Ln:MtR X "dict.items" (fun x vs H Q=>∃ (d:Addr) (kvs:List (Key × V)),x=.ref d∧vs=[]∧H d=some (.dK kvs)∧∀ p,H p=none→Q (.ref p) (upd H p (ItmO p d))):=by
  intro pins s σ H x xs v us Q I rx rv h
  obtain ⟨d,kvs,rfl,rfl,hd,q⟩:=h
  cases rx
  cases rv
  obtain ⟨z,ne,vs,rel,dd⟩:=JI I.hok hd
  refine call_meetsIn PySem.F.slot_dict_items dd.typeIs PySem.F.entry_dict_items (PySem.F.args_dict_items_1 _) (meets_dict_items (Qt X.prog X.w) d ne) ⟨⟨vs,dd⟩,?_⟩
  refine ⟨.ref s.heap.objs.size,_,I.laid (a:=s.heap.objs.size) (o:=ItmO s.heap.objs.size d) (t':=s.toks) (fun b o e=>Heap.get?_push_of_some _ e) (Nat.le_refl _) ?_,rfl,q _ (I.hok.fresh (Nat.le_refl _))⟩
  refine ⟨⟨_,Heap.get?_push_size _ rfl,rfl,rfl⟩,⟨_,Heap.get?_push_size _ rfl⟩,fun h1 h2 ⟨o,e,c,dt⟩ k=>⟨o,k _ e,c,dt⟩⟩
end
section
variable {X:Cx} {pins:List (Addr × Obj)} {σ:St} {H:Hp} {s:Shared}
theorem Inv.freeze {d:Addr} {kvs:List (Key × V)} {ob:Obj} (I:Inv X pins σ H s) (hd:H d=some (.dK kvs)) (e:s.heap.get? d=some ob):Inv X pins σ (upd H d (.frz ob (.dK kvs))) s:=by
  have e1:∀ b u,H b=some u→u≠.dK kvs→upd H d (.frz ob (.dK kvs)) b=some u:=fun b u q n=>by rw [Qg (QK q hd n)];exact q
  have J:=I.step (h':=s.heap) (H':=upd H d (.frz ob (.dK kvs))) (g':=s.gens) (d':=s.drawn) (t':=s.toks) (ch:=[]) (fun _ z=>nomatch z) (fun b o _ _ _ q _=>q) (fun b o _ _ _ q _=>⟨o.slots,q⟩)
    (fun b o _ q n=>by rw [Qg (fun z=>by rw [z,hd] at n;cases n)];exact n) (fun b o _ q=>⟨o,q⟩) (fun b xs q=>e1 b _ q (by intro z;cases z)) (fun b o u q=>e1 b _ q (by intro z;cases z)) (fun b ps q=>⟨#[],by rw [e1 b _ q (by intro z;cases z)];simp⟩) (fun m hn=>hn)
    (fun b u q=>by
      by_cases hb:b=d
      · subst hb
        rw [Qb] at q
        cases q
        exact ⟨e,(I.hok b _ hd).stay (fun c v _ r=>r) (fun c r=>e1 c _ r (by intro z;cases z)) fun c xs r=>e1 c _ r (by intro z;cases z)⟩
      · rw [Qg hb] at q
        exact (I.hok b u q).stay (fun c v _ r=>r) (fun c r=>e1 c _ r (by intro z;cases z)) fun c xs r=>e1 c _ r (by intro z;cases z)) I.bare
  exact J
theorem Inv.thaw {d:Addr} {kvs:List (Key × V)} {ob:Obj} (I:Inv X pins σ H s) (h0:∀ o u,X.H₀ d≠some (.frz o u)) (hd:H d=some (.frz ob (.dK kvs))):Inv X pins σ (upd H d (.dK kvs)) s:=by
  have e1:∀ b u,H b=some u→u≠.frz ob (.dK kvs)→upd H d (.dK kvs) b=some u:=fun b u q n=>by rw [Qg (QK q hd n)];exact q
  have nn:∀ b,H b=none→upd H d (.dK kvs) b=none:=fun b n=>by rw [Qg (fun z=>by rw [z,hd] at n;cases n)];exact n
  refine ⟨I.ok,I.os,I.bare,⟨I.base.keep,I.base.slot,fun b o q n hx=>nn b (I.base.free b o q n hx),I.base.there,fun b xs q=>e1 b _ (I.base.tups b xs q) (by intro z;cases z),fun b o u q=>?_,fun b ps q=>?_⟩,I.loc,I.cell,nn _ I.free,fun x c q=>nn _ (I.freeC x c q),fun p hp=>?_,fun b u q=>?_,I.len⟩
  · have:=I.base.frzs b o u q
    by_cases hb:b=d
    · subst hb
      exact absurd q (h0 o u)
    · rw [Qg hb];exact this
  · obtain ⟨more,e⟩:=I.base.tbls b ps q
    exact ⟨more,e1 b _ e (by intro z;cases z)⟩
  · obtain ⟨a1,a2,a3⟩:=I.pin p hp
    exact ⟨a1,nn _ a2,a3⟩
  · by_cases hb:b=d
    · subst hb
      rw [Qb] at q
      cases q
      exact (I.hok b _ hd).2.stay (fun c v _ r=>r) (fun c r=>e1 c _ r (by intro z;cases z)) fun c xs r=>e1 c _ r (by intro z;cases z)
    · rw [Qg hb] at q
      exact (I.hok b u q).stay (fun c v _ r=>r) (fun c r=>e1 c _ r (by intro z;cases z)) fun c xs r=>e1 c _ r (by intro z;cases z)
end
def NB (d:Addr) (kvs:List (Key × V)) (Q:Hp→Prop):Hp→Prop:=fun H=>(∃ o,H d=some (.frz o (.dK kvs)))∧Q (upd H d (.dK kvs))
def PM (t:TS):TS:=fun D σ H=>∃ d kvs,H d=some (.dK kvs)∧t { nx:=fun σ'=>NB d kvs (D.nx σ'),ct:=fun σ'=>NB d kvs (D.ct σ'),bk:=fun σ'=>NB d kvs (D.bk σ'),rt:=fun v=>NB d kvs (D.rt v) } σ H
section
variable {X:Cx}
theorem VC {st:Stmt} {t:TS} (h:PS X st t):PS X st (PM t):=by
  intro pins s σ H D I hw
  obtain ⟨d,kvs,hd,hw⟩:=hw
  have h0:∀ o u,X.H₀ d≠some (.frz o u):=fun o u q=>by
    have:=I.base.frzs d o u q
    rw [hd] at this;cases this
  refine wpAny_mono (h pins s σ H _ I hw) (fun f s' hs=>?_) fun _ _ z=>z
  cases f with
  | next=>obtain ⟨σ',H',J,⟨o,ho⟩,q⟩:=hs;exact ⟨σ',_,J.thaw h0 ho,q⟩
  | cont=>obtain ⟨σ',H',J,⟨o,ho⟩,q⟩:=hs;exact ⟨σ',_,J.thaw h0 ho,q⟩
  | brk=>obtain ⟨σ',H',J,⟨o,ho⟩,q⟩:=hs;exact ⟨σ',_,J.thaw h0 ho,q⟩
  | ret u=>obtain ⟨v,σ',H',J,rv,⟨o,ho⟩,q⟩:=hs;exact ⟨v,σ',_,J.thaw h0 ho,rv,q⟩
end
def LK (d:Addr) (o:Obj) (kvs:List (Key × V)):It :=
  ⟨fun i H=>H d=some (.frz o (.dK kvs))∧i < kvs.length,fun i H x H'=>H'=H∧∃ k,kvs[i]?=some (k,x),fun i H=>H d=some (.frz o (.dK kvs))∧kvs.length≤i⟩
def N9 (d:Addr) (o:Obj) (kvs:List (Key × V)):It :=
  ⟨fun i H=>H d=some (.frz o (.dK kvs))∧i < kvs.length,fun i H x H'=>∃ p k v,H p=none∧x=.ref p∧H'=upd H p (.tup [kV k,v])∧kvs[i]?=some (k,v),fun i H=>H d=some (.frz o (.dK kvs))∧kvs.length≤i⟩
theorem YU {P:Program} {w:World} {H:Hp} {h:Heap} {d:Addr} {o:Obj} {kvs:List (Key × V)} {es:Array DictEntry} {ep:Nat} (x:HOk P w H h) (hd:H d=some (.frz o (.dK kvs))) (he:o.data=.dict es ep):h.get? d=some o∧∃ vs,KV kvs vs∧h.DictAt (Qt P w) d vs ep:=by
  obtain ⟨e,z,ne,vs,rel,o2,es2,ep2,e2,ex,dt,r⟩:=x d _ hd
  refine ⟨e,vs,rel,?_⟩
  rw [e] at e2
  cases e2
  rw [he] at dt
  cases dt
  exact ⟨o,es,e,ex,he,r⟩
theorem KV.at {kvs:List (Key × V)} {vs:List (Key × Value)} (r:KV kvs vs) {i:Nat} {k:Key} {v:V} (e:kvs[i]?=some (k,v)):∃ u,vs[i]?=some (k,u)∧RelV v u:=by
  induction r generalizing i with
  | nil=>simp at e
  | @cons p q _ _ h _ ih =>
    cases i with
    | zero =>
      simp at e
      subst e
      obtain ⟨k2,u⟩:=q
      obtain ⟨h1,h2⟩:=h
      simp only at h1 h2
      subst h1
      exact ⟨u,rfl,h2⟩
    | succ i=>exact ih (by simpa using e)
theorem WP {P:Program} {w:World} {K:PySem.W.Frag} {tg:Expr} {d:Addr} {o:Obj} {es:Array DictEntry} {ep:Nat} (he:o.data=.dict es ep) (kvs:List (Key × V)) (it:Addr):Turn P w K tg (LK d o kvs) [it] it (fun i h=>h.IsValIter it d i kvs.length ep) where
  mem:=by simp
  obj:=fun i h st b hb=>by
    have e:b=it:=by simpa using hb
    subst e
    obtain ⟨ob,e,c,dt⟩:=st
    exact ⟨ob,e,fun v z=>by rw [dt] at z;cases z⟩
  keep:=fun i h h' st k=>by
    obtain ⟨ob,e,r⟩:=st
    exact ⟨ob,k it (by simp) ob e,r⟩
  item:=by
    intro X hP hw hK hc i pins s σ H E I hf st hg
    subst hP hw hK
    obtain ⟨hd,hi⟩:=hg
    obtain ⟨_,vs,rel,D⟩:=YU I.hok hd he
    have ek:kvs[i]?=some (kvs[i].1,kvs[i].2):=List.getElem?_eq_getElem hi
    obtain ⟨u,hu,ru⟩:=KV.at rel ek
    obtain ⟨f0,f1,f2,f3,f4,f5⟩:=hf it (by simp)
    rw [rel.length] at st
    refine wpAny_pyNext_values_item st D hu fun h' st' sb=>?_
    have I1:Inv X pins σ H { s with heap:=h' }:=I.turned (t':=s.toks) (fun b o hb e=>(sb.2 b hb).trans e) f0 f1 f3 f4 f5
    obtain ⟨ob,e,c,dt⟩:=id st'
    rw [← rel.length] at st'
    exact ⟨u,rfl,Wn (s:={ s with heap:=h' }) e c dt (by decide) ⟨kvs[i].2,H,I1,ru,⟨rfl,_,ek⟩,st',fun b hb=>(hf b hb).1⟩⟩
  done:=by
    intro X hP hw hK hc i pins s σ H E I hf st hg
    subst hP hw hK
    obtain ⟨hd,hi⟩:=hg
    obtain ⟨_,vs,rel,D⟩:=YU I.hok hd he
    obtain ⟨f0,f1,f2,f3,f4,f5⟩:=hf it (by simp)
    rw [rel.length] at st
    exact wpAny_pyNext_values_end (I.ok.hd hc) st D (List.getElem?_eq_none (by rw [← rel.length];exact hi)) fun h' eb=>⟨rfl,I.turned (t':=s.toks) (fun b o hb e=>eb b o hb e) f0 f1 f3 f4 f5⟩
  self:=fun A i s Q E st h=>wpAny_pyIter_valiter st h
theorem VX:entryFor table "dict_itemiterator.__iter__" = some Builtin.«dict_keyiterator.__iter__» :=
  entryFor_alias (id':="dict_keyiterator.__iter__") (by kernel_rfl) (by first | rfl | decide +kernel | (unfold String.splitOn;simp +decide [String.splitOnAux])) (by decide +kernel) (by kernel_rfl)
theorem XN {P:Program} {w:World} {K:PySem.W.Frag} {elts:List Expr} {k1:Nat} {pos:Pos} {d:Addr} {o:Obj} {es:Array DictEntry} {ep:Nat} (he:o.data=.dict es ep) (kvs:List (Key × V)) (it:Addr):Turn P w K (.Tuple elts k1 pos) (N9 d o kvs) [it] it (fun i h=>∃ ok ov,IsItemIter h it d i kvs.length ep ok ov) where
  mem:=by simp
  obj:=fun i h st b hb=>by
    have e:b=it:=by simpa using hb
    subst e
    obtain ⟨ok,ov,e⟩:=st
    exact ⟨_,e,fun v z=>by cases z⟩
  keep:=fun i h h' st k=>by
    obtain ⟨ok,ov,e⟩:=st
    exact ⟨ok,ov,k it (by simp) _ e⟩
  item:=by
    intro X hP hw hK hc i pins s σ H E I hf st hg
    subst hP hw hK
    obtain ⟨hd,hi⟩:=hg
    obtain ⟨ok,ov,st⟩:=st
    obtain ⟨_,vs,rel,D⟩:=YU I.hok hd he
    have ek:kvs[i]?=some (kvs[i].1,kvs[i].2):=List.getElem?_eq_getElem hi
    obtain ⟨u,hu,ru⟩:=KV.at rel ek
    rw [rel.length] at st
    refine wpAny_pyNext_items_item st D hu fun key h' hkey ho ht hsz hk=>?_
    refine ⟨.ref s.heap.objs.size,rfl,wpAny_letOwnedTupleGo_items (s:={ s with heap:=h' }) ho fun h'' he'' hs'=>?_⟩
    have hse:s.heap.objs.size≠it:=Nat.ne_of_gt (Heap.lt_size st)
    have rk:RelV (kV kvs[i].1) key:=by
      rcases QL hkey with ⟨j,t,e1,e2⟩ | ⟨x,t,e1,e2⟩
      · rw [e1];exact ⟨t,e2⟩
      · rw [e1];exact ⟨t,e2⟩
    have I2:Inv X pins σ (upd H s.heap.objs.size (.tup [kV kvs[i].1,kvs[i].2])) { s with heap:=h'' }:=by
      refine I.turnedNew (t':=s.toks) (ch:=[it]) (fun c o hc g=>?_) hf (Nat.le_refl _) ⟨by show 2≤sizeLine;decide,[key,u],.cons rk (.cons ru .nil),⟨_,(hs'.2 _ hse).trans ht,rfl,_,rfl⟩⟩
      have hc':c≠it:=fun z=>hc (by simp [z])
      exact (hs'.2 c hc').trans (hk c o hc' g)
    have hfr:∀ c ∈ [it],upd H s.heap.objs.size (.tup [kV kvs[i].1,kvs[i].2]) c=none:=fun c hc=>by
      have e:c=it:=by simpa using hc
      subst e
      rw [Qg (Ne.symm hse)];exact (hf c hc).1
    rw [← rel.length] at he''
    exact ⟨.ref s.heap.objs.size,_,I2,rfl,⟨s.heap.objs.size,_,_,I.fresh,rfl,rfl,ek⟩,⟨_,_,he''⟩,hfr⟩
  done:=by
    intro X hP hw hK hc i pins s σ H E I hf st hg
    subst hP hw hK
    obtain ⟨hd,hi⟩:=hg
    obtain ⟨ok,ov,st⟩:=st
    obtain ⟨_,vs,rel,D⟩:=YU I.hok hd he
    obtain ⟨f0,f1,f2,f3,f4,f5⟩:=hf it (by simp)
    rw [rel.length] at st
    exact wpAny_pyNext_items_end (I.ok.hd hc) st D (List.getElem?_eq_none (by rw [← rel.length];exact hi)) fun h' eb=>⟨rfl,I.turned (t':=s.toks) (fun b o hb e=>eb b o hb e) f0 f1 f3 f4 f5⟩
  self:=fun A i s Q E st h=>by
    obtain ⟨ok,ov,st⟩:=st
    have hT:s.TypeIs (.ref it) "dict_itemiterator" := ⟨_,st,rfl⟩
    refine wpAny_pyIter_slot hT PySem.F.slot_dict_itemiterator_iter (wpAny_call_entry PySem.F.slot_dict_itemiterator_iter hT VX ?_ (PySem.F.args_dict_itemiterator_iter_1 _))
    exact wpAny_pure ⟨_,rfl, "dict_itemiterator", _,hT,PySem.F.slot_dict_itemiterator_next.lookup,h⟩
section
variable {X:Cx} {tg e:Expr} {te:TE}
def iDV (te:TE):TI:=fun σ H R=>te σ H fun x H1=>∃ p d kvs,x=.ref p∧H1 p=some (ValO p d)∧H1 d=some (.dK kvs)∧∀ o,R (LK d o kvs) (upd H1 d (.frz o (.dK kvs)))
def iDI (te:TE):TI:=fun σ H R=>te σ H fun x H1=>∃ p d kvs,x=.ref p∧H1 p=some (ItmO p d)∧H1 d=some (.dK kvs)∧∀ o,R (N9 d o kvs) (upd H1 d (.frz o (.dK kvs)))
theorem Lw (he:PE X e te):PI X tg e (iDV te):=by
  intro pins s σ H R I h
  refine thn (he pins s σ H _ I h) fun v s1 ⟨x,H1,I1,r1,p,d,kvs,ex,hp,hd,q⟩=>?_
  subst ex
  obtain rfl:v=Value.ref p:=r1
  obtain ⟨z,ne,vs,rel,o,es,ep,ho,ext,dt,rest⟩:=JI I1.hok hd
  have hv:s1.heap.IsValuesView p d:=(I1.hok p _ hp).1
  refine wpAny_pyIter_values (knd:=Qt X.prog X.w) hv ⟨o,es,ho,ext,dt,rest⟩ ?_
  have I2:=I1.freeze hd ho
  refine ⟨s1.heap.objs.size,[s1.heap.objs.size],_,_,_,rfl,I2.kept (t':=s1.toks) fun b o e=>Heap.get?_push_of_some _ e,WP dt kvs _,?_,fun b hb=>?_,q o⟩
  · rw [rel.length];exact ⟨_,Heap.get?_push_size _ rfl,rfl,rfl⟩
  · have e:b=s1.heap.objs.size:=by simpa using hb
    subst e
    exact I2.fpOk (Nat.le_refl _) (I2.hok.fresh (Nat.le_refl _))
theorem VQ {elts:List Expr} {k1:Nat} {tpos:Pos} (he:PE X e te):PI X (.Tuple elts k1 tpos) e (iDI te):=by
  intro pins s σ H R I h
  refine thn (he pins s σ H _ I h) fun v s1 ⟨x,H1,I1,r1,p,d,kvs,ex,hp,hd,q⟩=>?_
  subst ex
  obtain rfl:v=Value.ref p:=r1
  obtain ⟨z,ne,vs,rel,o,es,ep,ho,ext,dt,rest⟩:=JI I1.hok hd
  have hv:s1.heap.IsItemsView p d:=(I1.hok p _ hp).1
  refine wpAny_pyIter_items (knd:=Qt X.prog X.w) hv ⟨o,es,ho,ext,dt,rest⟩ ?_
  have I2:=I1.freeze hd ho
  refine ⟨s1.heap.objs.size,[s1.heap.objs.size],_,_,_,rfl,I2.kept (t':=s1.toks) fun b o e=>Heap.get?_push_of_some _ e,XN dt kvs _,?_,fun b hb=>?_,q o⟩
  · rw [rel.length];exact ⟨_,_,Heap.get?_push_size _ rfl⟩
  · have e:b=s1.heap.objs.size:=by simpa using hb
    subst e
    exact I2.fpOk (Nat.le_refl _) (I2.hok.fresh (Nat.le_refl _))
end
theorem VJ {d:Addr} {o:Obj} {kvs:List (Key × V)} {g:TG} {tb:TS} {D:Ends} {σ:St} {H:Hp} (Pv:Nat→St→Hp→Prop) (h0:Pv 0 σ H) (hl:∀ i σ H,i≤kvs.length→Pv i σ H→H d=some (.frz o (.dK kvs)))
    (hs:∀ i k x σ H,kvs[i]?=some (k,x)→Pv i σ H→g x σ H fun σ2 H2=>tb { D with nx:=Pv (i + 1),ct:=Pv (i + 1),bk:=D.nx } σ2 H2) (hd:∀ σ H,Pv kvs.length σ H→D.nx σ H) :
    ∃ W:Nat→Nat→St→Hp→Prop,(∃ m,W 0 m σ H)∧∀ i m σ H,W i m σ H →
      ((LK d o kvs).stop i H∧D.nx σ H)∨((LK d o kvs).go i H∧∃ N:St→Hp→Prop,(∀ σ' H',N σ' H'→∃ m',m' < m∧W (i + 1) m' σ' H')∧∀ x H',(LK d o kvs).yld i H x H'→g x σ H' fun σ2 H2=>tb { D with nx:=N,ct:=N,bk:=D.nx } σ2 H2):=by
  refine ⟨fun i m σ H=>m=kvs.length - i∧i≤kvs.length∧Pv i σ H,⟨kvs.length,by simp,Nat.zero_le _,h0⟩,?_⟩
  rintro i m σ H ⟨rfl,hi,p⟩
  have q:=hl i σ H hi p
  by_cases hlt:i < kvs.length
  · refine .inr ⟨⟨q,hlt⟩,Pv (i + 1),fun σ' H' p'=>⟨kvs.length - (i + 1),by omega,rfl,hlt,p'⟩,fun x H' y=>?_⟩
    obtain ⟨e,k,y⟩:=y
    subst e
    exact hs i k x σ _ y p
  · have e:i=kvs.length:=by omega
    subst e
    exact .inl ⟨⟨q,Nat.le_refl _⟩,hd σ H p⟩
end L2
namespace L2
open PySem PySem.Spec PyProof.Rows
theorem JR {X:Cx} {pins:List (Addr × Obj)} {σ:St} {H:Hp} {s:Shared} (I:Inv X pins σ H s):∀ ts:List (Addr × Key × V),(∀ t ∈ ts,SqT X.K H t.1 [kV t.2.1,t.2.2]) →
    ∃ ps:List (Key × Value),KV (ts.map fun t=>(t.2.1,t.2.2)) ps∧∀ (j:Nat) (q:Key × Value),ps[j]?=some q→∃ p u,(ts.map fun t=>Value.ref t.1)[j]?=some (.ref p)∧(Qt X.prog X.w).is q.1 u=true∧s.heap.IsTuple p #[u,q.2]
  | [],_=>⟨[],.nil,fun j q h=>by simp at h⟩
  | t :: r,h=>by
    obtain ⟨ps,h1,h2⟩:=JR I r fun u hu=>h u (List.mem_cons_of_mem _ hu)
    obtain ⟨its,rv,p,_⟩:=I.tuple (h t List.mem_cons_self)
    obtain ⟨u,v,rfl,ru,rv'⟩:=rv.two
    refine ⟨(t.2.1,v) :: ps,.cons ⟨rfl,rv'⟩ h1,fun j q hj=>?_⟩
    cases j with
    | zero =>
      have:q=(t.2.1,v):=by simpa using hj.symm
      subst this
      exact ⟨t.1,u,rfl,YT (k:=t.2.1) ru,p⟩
    | succ j =>
      obtain ⟨p',u',e1,e2,e3⟩:=h2 j q (by simpa using hj)
      exact ⟨p',u',by simpa using e1,e2,e3⟩
section
variable {X:Cx}
theorem WK (hc:X.calm=true):Zw X (.type "dict") (fun xs H Q=>∃ (l:Addr) (ts:List (Addr × Key × V)),xs=[.ref l]∧SqL X.K H l (ts.map fun t=>V.ref t.1)∧(∀ t ∈ ts,SqT X.K H t.1 [kV t.2.1,t.2.2])∧(ts.map fun t=>t.2.1).Nodup∧ts.length≤1000 ∧
    ∀ d,H d=none→Q (.ref d) (upd H d (.dK (ts.map fun t=>(t.2.1,t.2.2))))):=by
  intro pins s σ H xs us Q I r h
  obtain ⟨l,ts,rfl,hl,ht,hnd,hz,q⟩:=h
  cases r with
  | cons r rr =>
    cases rr
    obtain rfl:_=Value.ref l:=r
    obtain ⟨its,rv,⟨o,n,e,c,dn,dt⟩,_⟩:=I.list hl
    obtain rfl:=Yg rv
    obtain ⟨ps,hkv,hps⟩:=JR I ts ht
    have hlen:ps.length=ts.length:=by have:=hkv.length;rw [List.length_map] at this;exact this.symm
    have hz1:ps.length≤sizeLine:=by rw [hlen,sizeLine_eq];omega
    refine UG (I.ok.hd hc) I.big e c dn dt hz1 (by rw [List.size_toArray,List.length_map];exact hlen) (fun j q hq=>by simpa using hps j q hq) fun h' tk hD hk=>?_
    have hk1:((([]:List (Key × Value)) ++ ps).map (·.1)).Nodup:=by
      rw [List.nil_append,KV.keys' hkv,List.map_map]
      exact hnd
    rw [ZQ ps [] hk1,List.nil_append] at hD
    have hfr:=I.hok.fresh (Nat.le_refl s.heap.objs.size)
    refine ⟨.ref s.heap.objs.size,_,I.laid (a:=s.heap.objs.size) (o:=.dK (ts.map fun t=>(t.2.1,t.2.2))) (t':=tk) hk (Nat.le_refl _) (XB (by rw [List.length_map,sizeLine_eq];omega) (beq_eq_false_iff_ne.mpr (Ne.symm (Nat.ne_of_lt I.big))) hkv hD),rfl,q _ hfr⟩
end
theorem V9 {d acc:Addr} {K:PySem.W.Frag} {o:Obj} {kvs:List (Key × V)} {tt:TT} {te:TE} {cs:St} {H1:Hp} {Q:Hp→Prop} (Pv:Nat→List V→Hp→Prop) (h0:Pv 0 [] (upd H1 acc (.lst []))) (hl:∀ i ys H,i≤kvs.length→Pv i ys H→H d=some (.frz o (.dK kvs)))
    (hs:∀ i k v p ys H,i < kvs.length→kvs[i]?=some (k,v)→H p=none→Pv i ys H→tt (some (kV k) :: some v :: cs) (upd H p (.tup [kV k,v])) (Gb kvs.length Pv acc i te (some (kV k) :: some v :: cs))) (hd:∀ ys H,Pv kvs.length ys H→Q H):UE (N9 d o kvs) 2 cs (Mu K 2 (YI (Zo 0) (YI (Zo 1) Lc))) tt te H1 acc Q:=by
  refine Q9 Pv h0 (fun ys H p=>⟨⟨hl _ _ _ (Nat.le_refl _) p,Nat.le_refl _⟩,hd ys H p⟩) fun i ys H hi p=>⟨⟨hl _ _ _ (Nat.le_of_lt hi) p,hi⟩,?_⟩
  rintro x H3 ⟨p',k,v,hp,rfl,rfl,e⟩ as has
  obtain ⟨a0,a1,rfl⟩:=Xn has
  exact ⟨p',[kV k,v],rfl,SqT.of Qb,rfl,kV k,[v],rfl,v,[],rfl,rfl,⟨[some (kV k),some v],rfl,rfl⟩,hs i k v p' ys H hi e hp p⟩
end L2
namespace L2
open PySem PySem.Spec PyProof.Rows
section
variable {prog:Program} {w:World} {A:Around} {E:Value→Shared→Prop} {s:Shared}
end
section
variable {X:Cx} {e:Expr} {te:TE} {p pos p2 pos2:Pos}
theorem Gg (hc:X.calm=true):Zw X (.builtin "sum") (fun xs H Q=>∃ (l:Addr) (ns:List Int),xs=[.ref l]∧SqL X.K H l (ns.map V.int)∧Q (.int ns.sum) H):=by
  intro pins s σ H xs us Q I r h
  obtain ⟨l,ns,rfl,hl,q⟩:=h
  cases r with
  | cons r rr =>
    cases rr
    obtain rfl:_=Value.ref l:=r
    obtain ⟨its,rv,p,_⟩:=I.list hl
    obtain ⟨ys,rfl,e2⟩:=Yy rv
    have hL:s.heap.IsList l (intItems ys.toArray):=by rw [JT];exact p.isList
    refine sum_intListG (I.ok.hd hc) hL fun h' tk t' hk=>⟨.int ns.sum,H,I.kept (t':=tk) hk,⟨t',?_⟩,q⟩
    rw [ME,e2,List.take_of_length_le]
    rw [← e2];simp
end
end L2
namespace K22
open PySem L2 TM TT K9 K11
section
variable {α:Type}
mutual
def QN (op:Lab→List α→α) (cv:Int→Int→α):Tm→α
  | .node (.call m b) _ _=>cv m b
  | .node (.put n k a) _ bs=>op (.put n k a) (Q1 op cv bs)
def Q1 (op:Lab→List α→α) (cv:Int→Int→α):List Tm→List α
  | []=>[]
  | t :: r=>QN op cv t :: Q1 op cv r
end
theorem ZW (op:Lab→List α→α) (cv:Int→Int→α):∀ ts:List Tm,Q1 op cv ts=ts.map (QN op cv)
  | []=>by simp [Q1]
  | t :: r=>by simp only [Q1,List.map_cons,ZW op cv r]
mutual
def Zl (op:Lab→Int→List α→α) (d:α) (ks:List KdT) (ms:List Md):Tree Str→Int→α
  | .node n mk bs=>fun m=>match ms[m.toNat]? with
    | none=>d
    | some md=>match ruleK ks md n with
      | none=>d
      | some u=>QN (fun l xs=>op l mk xs) (fun m' b=>((Za op d ks ms bs)[b.toNat]?).elim d fun g=>g m') u
def Za (op:Lab→Int→List α→α) (d:α) (ks:List KdT) (ms:List Md):List (Tree Str)→List (Int→α)
  | []=>[]
  | t :: r=>Zl op d ks ms t :: Za op d ks ms r
end
theorem Jo (op:Lab→Int→List α→α) (d:α) (ks:List KdT) (ms:List Md):∀ ts:List (Tree Str),Za op d ks ms ts=ts.map (Zl op d ks ms)
  | []=>by simp [Za]
  | t :: r=>by simp only [Za,List.map_cons,Jo op d ks ms r]
def valT (op:Lab→Int→List α→α) (d:α) (T:Tu) (u:Tm) (r:Tree Str):α:=QN (fun l xs=>op l (mkT r) xs) (fun m b=>(r.bs[b.toNat]?).elim d fun c=>Zl op d T.ks T.ms c m) u
theorem Y3 {op:Lab→Int→List α→α} {d:α} {T:Tu} {t:Tree Str} {m:Int} {md:Md} {u:Tm} (h1:T.ms[m.toNat]?=some md) (h2:ruleK T.ks md (nmT t)=some u):Zl op d T.ks T.ms t m=valT op d T u t:=by
  cases t with
  | node n mk bs =>
    have h2':ruleK T.ks md n=some u:=h2
    simp only [Zl,h1,h2',Jo]
    unfold valT
    congr 1
    funext m' b
    rw [List.getElem?_map]
    show (Option.map (Zl op d T.ks T.ms) bs[b.toNat]?).elim d (fun g=>g m')=(bs[b.toNat]?).elim d fun c=>Zl op d T.ks T.ms c m'
    cases bs[b.toNat]? <;> rfl
end
theorem St.call {T:Tu} (ok:TuOk T) {u:Tm} {r:Tree Str} (h:St T (u,r)) {m b:Int} (hc:(m,b) ∈ cls u) :
    ∃ c md v,0≤b∧0≤m∧r.bs[b.toNat]?=some c∧T.ms[m.toNat]?=some md∧ruleK T.ks md (nmT c)=some v∧v ∈ md.2∧St T (v,c):=by
  obtain ⟨kinds,hf,hl,hT⟩:=h
  have h1:St T (Ze m b,r):=by
    refine ⟨kinds,?_,hl,hT⟩
    unfold ZV at hf ⊢
    simp only [Ze,cls,lcl,Zj,List.append_nil,List.all_cons,List.all_nil,Bool.and_true]
    exact List.all_eq_true.mp hf _ hc
  obtain ⟨c,md,v,b0,m0,e1,e2,e3,e4,_,e5⟩:=h1.next ok (m:=m) (b:=b) rfl
  exact ⟨c,md,v,b0,m0,e1,e2,e3,e4,e5⟩
def Rep {α:Type} (K:PySem.W.Frag) (R:Hp→V→α→Prop):Prop:=∀ (H H':Hp) (v:V) (a:α),(∀ x xs,SqT K H x xs→SqT K H' x xs)→R H v a→R H' v a
inductive RAll {α:Type} (R:Hp→V→α→Prop) (H:Hp):List V→List α→Prop where
  | nil:RAll R H [] []
  | cons {v:V} {a:α} {vs:List V} {as:List α}:R H v a→RAll R H vs as→RAll R H (v :: vs) (a :: as)
theorem RAll.append {α:Type} {R:Hp→V→α→Prop} {H:Hp}:∀ {vs ws:List V} {as bs:List α},RAll R H vs as→RAll R H ws bs→RAll R H (vs ++ ws) (as ++ bs)
  | _,_,_,_,.nil,h=>h
  | _,_,_,_,.cons a t,h=>.cons a (RAll.append t h)
theorem RAll.imp {α:Type} {R:Hp→V→α→Prop} {H H':Hp} (k:∀ {v a},R H v a→R H' v a):∀ {vs:List V} {as:List α},RAll R H vs as→RAll R H' vs as
  | _,_,.nil=>.nil
  | _,_,.cons a t=>.cons (k a) (RAll.imp k t)
theorem Rd.mk {H H':Hp} {d:Addr} {u:HO} (g:Same H H') (h:Rd H d u):Rd H' d u:=by
  rcases h with h | ⟨o,h⟩
  · exact .inl (g _ _ h)
  · exact .inr ⟨o,g _ _ h⟩
def BelAt {α:Type} (R:Hp→V→α→Prop) (H:Hp) (ds:List Addr) (cv:Int→Int→α) (cs:List (Int × Int)):Prop:=∀ c ∈ cs,0≤c.2∧∃ d kvs v,ds[c.2.toNat]?=some d∧Rd H d (.dK kvs)∧valV kvs (Sum.inl c.1:Key)=some v∧R H v (cv c.1 c.2)
theorem BelAt.same {α:Type} {K:PySem.W.Frag} {R:Hp→V→α→Prop} (hR:Rep K R) {H H':Hp} {ds:List Addr} {cv:Int→Int→α} {cs:List (Int × Int)} (g:Same H H') (h:BelAt R H ds cv cs):BelAt R H' ds cv cs:=fun c hc=>by
  obtain ⟨h0,d,kvs,v,h1,h2,h3,h4⟩:=h c hc
  exact ⟨h0,d,kvs,v,h1,Rd.mk g h2,h3,hR _ _ _ _ (fun _ _=>g.seqT) h4⟩
theorem BelAt.sub {α:Type} {R:Hp→V→α→Prop} {H:Hp} {ds:List Addr} {cv:Int→Int→α} {cs cs':List (Int × Int)} (h:BelAt R H ds cv cs) (k:∀ c ∈ cs',c ∈ cs):BelAt R H ds cv cs':=fun c hc=>h c (k c hc)
theorem Ye {c:Int × Int} {t:Tm}:∀ {ts:List Tm},t ∈ ts→c ∈ cls t→c ∈ Zj ts
  | _ :: _,h,hc=>by
    simp only [Zj]
    rcases List.mem_cons.mp h with rfl | h
    · exact List.mem_append_left _ hc
    · exact List.mem_append_right _ (Ye h hc)
theorem Vr:∀ ts:List Tm,ts.length≤szs ts
  | []=>by simp [szs]
  | t :: r=>by
    have h1:=Vr r
    have h2:=GE t
    simp only [szs,List.length_cons];omega
def pr (c:Int × Int):List Int:=[c.1,c.2]
def W1 (K:PySem.W.Frag) (n:Nat):Sp:=fun vs H Q _=>∃ (v:V) (t:Tm),vs=[v]∧TmV K H v t∧lv t≤n∧sz t≤1000 ∧
  ∀ (l:Addr) (H':Hp) (ts:List (Addr × List Int)),Same H H'→H l=none→H' l=some (.lst (Rf ts))→TsAt K H' ts→ts.map (·.2)=(cls t).map pr→Q (.ref l) H'
def GW {α:Type} (K:PySem.W.Frag) (R:Hp→V→α→Prop) (op:Lab→Int→List α→α):Sp:=fun vs H Q _=>∃ (v:V) (u:Tm) (mk:Int) (lp:Addr) (ys:List V) (xs:List α),vs=[v,.int mk,.ref lp]∧TmV K H v u∧isC (lab u)=false∧H lp=some (.lst ys)∧RAll R H ys xs∧xs.length≤100 ∧
  ∀ (v':V) (H':Hp),Same H H'→R H' v' (op (lab u) mk xs)→Q v' H'
def Zm {α:Type} (K:PySem.W.Frag) (e:Expr) (R:Hp→V→α→Prop) (op:Lab→Int→List α→α) (n:Nat):Sp:=fun vs H Q _=>∃ (v:V) (u:Tm) (mk:Int) (lb f:Addr) (ds:List Addr) (cv:Int→Int→α),vs=[v,.int mk,.ref lb,.ref f]∧TmV K H v u∧lv u≤n∧sz u≤100∧SqL K H lb (ds.map V.ref)∧BelAt R H ds cv (cls u)∧LamAt H f e ∧
  ∀ (v':V) (H':Hp),Same H H'→R H' v' (QN (fun l xs=>op l mk xs) cv u)→Q v' H'
section
variable {P:Program} {w:World} {K:PySem.W.Frag} {mg:Str→Option Value} {base:Heap} {f:Addr} {fd:FuncData}
theorem N8:FnScope ["term", "told", "part"] ["term"] (defScope sCO):=⟨rfl,rfl,rfl,by decide +kernel,rfl,by decide +kernel,by decide +kernel⟩
theorem Po {n:Nat} (F:Fun K "calls_of" "calls_of" sCO f fd) (G:Gm mg) (RC:Fn P w K mg base 1 "is_call" ["term"] (Jr K)) (R:Fn P w K mg base (n + 1) "calls_of" ["term"] (W1 K n)):FnOk P w K mg base CX0 (n + 2) f fd ["term"] (W1 K (n + 1)):=by
  refine F.ok N8 (fun vs H Q E h=>?_) (fun cdv A outer s H vs Q E hr h=>?_)
  · obtain ⟨v,t,rfl,_⟩:=h
    rfl
  obtain ⟨v,t,rfl,ht,hlv,hsz,q⟩:=h
  refine ⟨_,(Qe (QT (Zv (Qr RC hr (Qa (pv 0) Qc) (Nat.le_add_left 1 n))) (Qi (Qp (QE (Qa ((QJ (Qa (Qj Ql (pv 0) Qd (fun _ _=>rfl)) (Qa (Qj Ql (pv 0) Qd (fun _ _=>rfl)) Qc)))) Qc)))) Qx)
    (Qe (Qn (i:=1) N8.nd rfl (Or.inl rfl) (QE Qc))
    (Qe (QU PassesOwn.never rfl (YZ (Qj Ql (pv 0) Qd (fun _ _=>rfl))) (Qu (i:=2) N8.nd rfl (Or.inl rfl))
      (Qi (Q2 (ZB PySem.F.plainAttrs_list PySem.F.slot_list_extend PySem.F.type_list_extend JA (pv 1) (Qa (Qr R hr (Qa (pv 2) Qc) (Nat.le_refl _)) Qc)))))
    (Qi (Qp (pv 1)))))),?_⟩
  refine ⟨_,rfl,v,t,rfl,ht,_,rfl,?_⟩
  rcases Yk ht with ⟨a,m,b,rfl,rfl,h1⟩ | ⟨a,b,bs,nm,k,ad,rfl,et,h1,h2,h3,h4⟩
  · refine Q7 ⟨_,rfl,a,_,1,_,rfl,rfl,h1,rfl,_,rfl,a,_,2,_,rfl,rfl,h1,rfl,(by show 2≤sizeLine;decide),fun p hp=>⟨(by show 1≤sizeLine;decide),fun l hl=>?_⟩⟩
    have g1:=Qf hp (.tup [.int m,.int b])
    have g2:=Qf hl (.lst [.ref p])
    refine q l _ [(p,[m,b])] (g1.trans g2) (g1.free hl) Qb (fun x hx=>?_) rfl
    have:x=(p,[m,b]):=by simpa using hx
    rw [this]
    exact g2.seqT (SqT.of Qb)
  have ecls:cls t=Zj t.bs:=by
    have:=congrArg cls et
    rw [this];simp [cls,lcl]
  rw [et]
  refine Zu ?_
  have hlen:=h3.length
  rw [Zn] at hlv
  rw [GE] at hsz
  rw [ecls] at q
  refine ⟨(by show 0≤sizeLine;decide),fun l hl=>?_⟩
  have g0:=Qf hl (.lst [])
  refine ⟨_,rfl,a,_,4,_,rfl,rfl,g0.seqT h1,rfl,b,rfl,⟨_,g0.seqT h2⟩,?_⟩
  refine J2 (K:=K) (xs:=bs) (fun i σ H'=>∃ (ts:List (Addr × List Int)) (c1:Option V),σ=[some (.ref a),some (.ref l),c1]∧Same H H'∧H' l=some (.lst (Rf ts))∧TsAt K H' ts∧ts.map (·.2)=(Zj (t.bs.take i)).map pr)
    ⟨[],none,rfl,g0,Qb,fun x hx=>(nomatch hx),by simp [Zj]⟩ ?_ ?_ ?_
  · rintro i σ H' _ ⟨ts,c1,_,g,_⟩
    exact g.seqT h2
  · rintro i x σ H' hx ⟨ts,c1,rfl,g,hl',hts,hcl⟩
    have hi:i < bs.length:=(List.getElem?_eq_some_iff.mp hx).1
    obtain ⟨c,hc⟩ : ∃ c,t.bs[i]?=some c:=⟨_,List.getElem?_eq_getElem (by omega)⟩
    obtain ⟨cv,hcv,hct⟩:=h3.get hc
    obtain rfl:cv=x:=Option.some.inj (hcv.symm.trans hx)
    have hm:=List.mem_of_getElem? hc
    have a1:=Ud hm
    have a2:=NQ hm
    refine ⟨_,rfl,.inl ⟨rfl,_,SqL.of hl'⟩,_,rfl,cv,c,rfl,hct.mono fun _ _=>g.seqT,by omega,by omega,fun lb Hb tsb gb hlbn hlb htb hclb=>?_⟩
    have hl2:=gb _ _ hl'
    have tl:ts.length≤szs t.bs:=by
      have e:=congrArg List.length hcl
      rw [List.length_map,List.length_map] at e
      have h5:=U6 (t.bs.take i)
      have hle:szs (t.bs.take i)≤szs t.bs:=by
        have e:=Us (t.bs.take i ++ t.bs.drop i)
        rw [List.map_append,List.sum_append,Us,Us,List.take_append_drop] at e
        omega
      omega
    have tl2:tsb.length≤sz c:=by
      have e:=congrArg List.length hclb
      rw [List.length_map,List.length_map] at e
      have h5:=VF c
      omega
    refine ⟨l,lb,_,_,rfl,rfl,hl2,hlb,?_,?_⟩
    · rw [List.length_map,List.length_map];exact Zh (by omega)
    refine ⟨ts ++ tsb,_,rfl,fun x u e=>?_,by rw [Qb];simp,?_,?_⟩
    · rw [Qg (Qh e hl)];exact gb _ _ (g _ _ e)
    · exact (hts.mono fun _ _ h=>(gb.seqT h).put hl2).app (htb.mono fun _ _ h=>h.put hl2)
    · rw [List.map_append,hcl,hclb,List.take_add_one,hc]
      show _=(Zj (t.bs.take i ++ [c])).map pr
      rw [JD,List.map_append]
  · rintro σ H' ⟨ts,c1,rfl,g,hl',hts,hcl⟩
    rw [List.take_of_length_le (by omega)] at hcl
    exact ⟨_,rfl,q l H' ts g hl hl' hts hcl⟩
theorem MQ {k:Nat}:FnOk P w K mg base CX0 k f fd ["term"] (W1 K 0):=by
  have no:∀ vs H Q E,¬ W1 K 0 vs H Q E:=fun vs H Q E h=>by
    obtain ⟨v,t,_,_,h0,_⟩:=h
    rw [Zn] at h0;omega
  exact ⟨fun vs H Q E h=>absurd h (no vs H Q E),fun A outer s H args us vs Q E _ _ _ _ h=>absurd h (no vs H Q E)⟩
theorem LJ (F:Fun K "calls_of" "calls_of" sCO f fd) (G:Gm mg) (RC:Fn P w K mg base 1 "is_call" ["term"] (Jr K)) (hb:Binds K fd ["term"] []) (hm:mg "calls_of" = some (.ref f)):∀ n:Nat,FnOk P w K mg base CX0 (n + 1) f fd ["term"] (W1 K n)
  | 0=>MQ
  | n + 1=>Po F G RC ⟨f,fd,LJ F G RC hb hm n,hb,F.kp,hm⟩
theorem Oj:FnScope ["term", "mark", "below", "make"] ["term", "mark", "below", "make"] (defScope UP):=⟨rfl,rfl,rfl,by decide +kernel,rfl,by decide +kernel,by decide +kernel⟩
theorem MK {α:Type} {e:Expr} {R:Hp→V→α→Prop} {op:Lab→Int→List α→α} (hR:Rep K R) {n:Nat} (F:Fun K "filled" "filled" UP f fd) (G:Gm mg) (RC:Fn P w K mg base 1 "is_call" ["term"] (Jr K)) (CV:WL P w K mg base 2 e (GW K R op)) (RF:Fn P w K mg base (n + 3) "filled" ["term", "mark", "below", "make"] (Zm K e R op n)) :
    FnOk P w K mg base CX0 (n + 4) f fd ["term", "mark", "below", "make"] (Zm K e R op (n + 1)):=by
  refine F.ok Oj (fun vs H Q E h=>?_) (fun cdv A outer s H vs Q E hr h=>?_)
  · obtain ⟨v,u,mk,lb,f,ds,cv,rfl,_⟩:=h
    rfl
  obtain ⟨v,u,mk,lb,fm,ds,cv,rfl,ht,hlv,hsz,hlb,hB,hL,q⟩:=h
  refine ⟨_,(Qe (QT (Zv (Qr RC hr (Qa (pv 0) Qc) (by omega))) (Qi (Qp (Zy (ZL hr) (Qj Qk (pv 2) (Qj Ql (pv 0) Qd (fun _ _=>rfl)) (fun _ _=>rfl)) (Qj Ql (pv 0) Qd (fun _ _=>rfl)) (fun _ _=>rfl)))) Qx)
    (Qi (Qp (Mr (i:=3) CV (hr.mono (by omega)) (Qa (pv 0) (Qa (pv 1) (Qa (QI (CompG.many (xs:=["part"]) (caps:=["below", "make", "mark"]) (cap:=[2,3,1]) (cs:=[_,_,_]) rfl rfl (by decide +kernel) (by decide +kernel) (by decide +kernel) (by decide +kernel) (by decide +kernel) (by decide +kernel) rfl rfl rfl) rfl (YZ (Qj Ql (pv 0) Qd (fun _ _=>rfl))) (Zk (CompG.many (xs:=["part"]) (caps:=["below", "make", "mark"]) (cap:=[2,3,1]) (cs:=[_,_,_]) rfl rfl (by decide +kernel) (by decide +kernel) (by decide +kernel) (by decide +kernel) (by decide +kernel) (by decide +kernel) rfl rfl rfl)) (fun _ _ _ _=>QX) (fun _ _ _ _=>Qr RF hr (Qa (pv 0) (Qa (pv 3) (Qa (pv 1) (Qa (pv 2) Qc)))) (Nat.le_refl _))) Qc))))))),?_⟩
  refine ⟨_,rfl,v,u,rfl,ht,_,rfl,?_⟩
  rcases Yk ht with ⟨a,m,b,rfl,rfl,h1⟩ | ⟨a,b,bs,nm,k,ad,rfl,et,h1,h2,h3,h4⟩
  · obtain ⟨h0,d,kvs,x,e1,e2,e3,e4⟩:=hB (m,b) (by simp [Ze,cls,lcl,Zj])
    have em:b=((b.toNat:Nat):Int):=by
      have:(0:Int)≤b:=h0
      omega
    refine Q7 ⟨_,rfl,_,rfl,a,_,2,_,rfl,rfl,h1,rfl,lb,_,b,.ref d,rfl,rfl,hlb,?_,_,rfl,a,_,1,_,rfl,rfl,h1,rfl,d,x,rfl,.inl ⟨kvs,.inl m,e2,rfl,e3.symm⟩,q x H (Same.refl _) e4⟩
    rw [em];exact Qv (by rw [List.getElem?_map,e1];rfl)
  have ecls:cls u=Zj u.bs:=by
    have:=congrArg cls et
    rw [this];simp [cls,lcl]
  have hlab:lab u=.put nm k ad:=by rw [et];rfl
  rw [ecls] at hB
  have hic:isC (lab u)=false:=by rw [hlab];rfl
  rw [hic]
  refine Zu ?_
  have hlen:=h3.length
  rw [Zn] at hlv
  rw [GE] at hsz
  refine ⟨fm,rfl,_,rfl,_,rfl,_,rfl,a,_,4,_,rfl,rfl,h1,rfl,b,rfl,⟨_,h2⟩,fun acc hacc=>?_⟩
  refine Ww (K:=K) (xs:=bs) (cs:=[some (.ref lb),some (.ref fm),some (.int mk)]) (tt:=fun _ H Q=>Q true H) (te:=X6 (Zm K e R op n) [] E0 (Q3 (Zf 0) (Q3 (Zf 3) (Q3 (Zf 1) (Q3 (Zf 2) UA))))) (fun i ys H'=>H' acc=some (.lst ys)∧Same H H'∧ys.length=i∧RAll R H' ys ((u.bs.take i).map (QN (fun l xs=>op l mk xs) cv)))
    ⟨Qb,Qf hacc _,rfl,.nil⟩ ?_ ?_ ?_
  · rintro i ys H' _ ⟨_,g,_⟩
    exact g.seqT h2
  · rintro i x ys H' hi hx ⟨hya,g,hyl,hys⟩
    obtain ⟨c,hc⟩ : ∃ c,u.bs[i]?=some c:=⟨_,List.getElem?_eq_getElem (by omega)⟩
    obtain ⟨cv',hcv,hct⟩:=h3.get hc
    obtain rfl:cv'=x:=Option.some.inj (hcv.symm.trans hx)
    have hm:=List.mem_of_getElem? hc
    have a1:=Ud hm
    have a2:=NQ hm
    refine Q7 ⟨_,rfl,_,rfl,_,rfl,_,rfl,cv',c,mk,lb,fm,ds,cv,rfl,hct.mono fun _ _=>g.seqT,by omega,by omega,g.seq hlb,(hB.sub fun d hd=>Ye hm hd).same hR g,hL.same g,fun v' H4 g4 hv'=>?_⟩
    refine Qw (ys:=ys) hi (g4 _ _ hya) (by omega) ⟨Qb,fun x u e=>?_,by simp [hyl],?_⟩
    · rw [Qg (Qh e hacc)];exact g4 _ _ (g _ _ e)
    · rw [List.take_add_one,hc]
      show RAll R _ (ys ++ [v']) ((u.bs.take i ++ [c]).map (QN (fun l xs=>op l mk xs) cv))
      rw [List.map_append]
      refine RAll.append (hys.imp fun h=>hR _ _ _ _ (fun _ _ h=>(g4.seqT h).put (g4 _ _ hya)) h) (.cons (hR _ _ _ _ (fun _ _ h=>h.put (g4 _ _ hya)) hv') .nil)
  rintro ys H1 ⟨hya,g,hyl,hys⟩
  have et2:u.bs.take bs.length=u.bs:=List.take_of_length_le (by omega)
  rw [et2] at hys
  have hbl:u.bs.length≤100:=by
    have:=Vr u.bs
    omega
  refine ⟨hL.same g,.ref a,u,mk,acc,ys,_,rfl,ht.mono fun _ _=>g.seqT,by rw [hlab];rfl,hya,hys,by rw [List.length_map];exact hbl,fun v' H2 g2 hv'=>q v' H2 (g.trans g2) ?_⟩
  rw [et]
  rw [hlab] at hv'
  simp only [QN,ZW]
  exact hv'
theorem V0 {α:Type} {e:Expr} {R:Hp→V→α→Prop} {op:Lab→Int→List α→α} {k:Nat}:FnOk P w K mg base CX0 k f fd ["term", "mark", "below", "make"] (Zm K e R op 0):=by
  have no:∀ vs H Q E,¬ Zm K e R op 0 vs H Q E:=fun vs H Q E h=>by
    obtain ⟨v,u,mk,lb,f,ds,cv,_,_,h0,_⟩:=h
    rw [Zn] at h0;omega
  exact ⟨fun vs H Q E h=>absurd h (no vs H Q E),fun A outer s H args us vs Q E _ _ _ _ h=>absurd h (no vs H Q E)⟩
theorem YH {α:Type} {e:Expr} {R:Hp→V→α→Prop} {op:Lab→Int→List α→α} (hR:Rep K R) (F:Fun K "filled" "filled" UP f fd) (G:Gm mg) (RC:Fn P w K mg base 1 "is_call" ["term"] (Jr K)) (CV:WL P w K mg base 2 e (GW K R op)) (hb:Binds K fd ["term", "mark", "below", "make"] []) (hm:mg "filled" = some (.ref f)):∀ n:Nat,FnOk P w K mg base CX0 (n + 3) f fd ["term", "mark", "below", "make"] (Zm K e R op n)
  | 0=>V0
  | n + 1=>MK hR F G RC CV ⟨f,fd,YH hR F G RC CV hb hm n,hb,F.kp,hm⟩
end
end K22
namespace K22
open PySem L2 TM TT K9 K11
structure Mo (K:PySem.W.Frag) (H H':Hp):Prop where
  t:∀ a xs,SqT K H a xs→SqT K H' a xs
  l:∀ a xs,SqL K H a xs→SqL K H' a xs
theorem Mo.of {K:PySem.W.Frag} {H H':Hp} (g:Same H H'):Mo K H H':=⟨fun _ _=>g.seqT,fun _ _=>g.seq⟩
theorem Mo.trans {K:PySem.W.Frag} {H H1 H2:Hp} (a:Mo K H H1) (b:Mo K H1 H2):Mo K H H2:=⟨fun _ _ h=>b.t _ _ (a.t _ _ h),fun _ _ h=>b.l _ _ (a.l _ _ h)⟩
theorem Mo.sx {K:PySem.W.Frag} {H H':Hp} {d:Addr} {u:HO} (hd:H d=some u) (h1:∀ xs,u≠.tup xs) (h2:∀ xs,u≠.lst xs) (h3:∀ o xs,u≠.frz o (.tup xs)) (h4:∀ o xs,u≠.frz o (.lst xs)) (g:SameX d H H'):Mo K H H':=by
  constructor
  · intro a xs h
    rcases h with (h | ⟨o,h⟩) | h
    · exact .inl (.inl (g _ _ (QK h hd (fun z=>h1 xs z.symm)) h))
    · exact .inl (.inr ⟨o,g _ _ (QK h hd (fun z=>h3 o xs z.symm)) h⟩)
    · exact .inr h
  · intro a xs h
    rcases h with (h | ⟨o,h⟩) | h
    · exact .inl (.inl (g _ _ (QK h hd (fun z=>h2 xs z.symm)) h))
    · exact .inl (.inr ⟨o,g _ _ (QK h hd (fun z=>h4 o xs z.symm)) h⟩)
    · exact .inr h
theorem Mo.dk {K:PySem.W.Frag} {H H':Hp} {d:Addr} {kvs:List (Key × V)} (hd:H d=some (.dK kvs)) (g:SameX d H H'):Mo K H H':=Mo.sx hd (fun _ z=>nomatch z) (fun _ z=>nomatch z) (fun _ _ z=>nomatch z) (fun _ _ z=>nomatch z) g
theorem Mo.fz {K:PySem.W.Frag} {H H':Hp} {d:Addr} {ob:Obj} {kvs:List (Key × V)} (hd:H d=some (.frz ob (.dK kvs))) (g:SameX d H H'):Mo K H H':=Mo.sx hd (fun _ z=>nomatch z) (fun _ z=>nomatch z) (fun _ _ z=>nomatch z) (fun _ _ z=>nomatch z) g
theorem Mo.wood {K:PySem.W.Frag} {H H':Hp} {w:Addr} {ks:List KdT} (g:Mo K H H') (h:WoodAt K H w ks):WoodAt K H' w ks:=⟨g.l _ _ h.1,fun k hk=>⟨g.t _ _ (h.2 k hk).1,g.l _ _ (h.2 k hk).2.1,fun t ht=>⟨g.t _ _ ((h.2 k hk).2.2 t ht).1,g.t _ _ ((h.2 k hk).2.2 t ht).2⟩⟩⟩
theorem Mo.modes {K:PySem.W.Frag} {H H':Hp} {lm:Addr} {ms:List MdT} (g:Mo K H H') (h:ModesL K H lm ms):ModesL K H' lm ms:=⟨g.l _ _ h.1,fun m hm=>⟨g.t _ _ (h.2 m hm).1,g.l _ _ (h.2 m hm).2.1,(h.2 m hm).2.2.mono g.t⟩⟩
theorem Mo.turn {K:PySem.W.Frag} {H H':Hp} {tu wd lm:Addr} {v:V} {ms:List MdT} {T:Tu} (g:Mo K H H') (h:TurnAt K H tu wd lm v ms T):TurnAt K H' tu wd lm v ms T:=⟨g.t _ _ h.tu,g.wood h.w,g.modes h.m,h.s.mono g.t⟩
theorem few:∀ {n:Nat} {fs:List Int},fs.Nodup→(∀ m ∈ fs,0≤m∧m < (n:Int))→fs.length≤n
  | 0,[],_,_=>Nat.le_refl _
  | 0,m :: _,_,h=>by have:=h m List.mem_cons_self;omega
  | n + 1,fs,hn,h=>by
    have h1:(fs.filter fun m=>decide (m≠(n:Int))).length≤n:=few (hn.sublist List.filter_sublist) fun m hm=>by
      obtain ⟨h2,h3⟩:=List.mem_filter.mp hm
      have h4:=h m h2
      have h5:m≠(n:Int):=of_decide_eq_true h3
      omega
    have h2:fs.length≤(fs.filter fun m=>decide (m≠(n:Int))).length + 1:=by
      clear h h1
      induction fs with
      | nil=>simp
      | cons a r ih =>
        obtain ⟨ha,hr⟩:=List.nodup_cons.mp hn
        by_cases e:a=(n:Int)
        · have:r.filter (fun m=>decide (m≠(n:Int)))=r:=List.filter_eq_self.mpr fun x hx=>decide_eq_true fun z=>ha (by rw [e,← z];exact hx)
          rw [List.filter_cons_of_neg (by simp [e]),this];simp
        · have:=ih hr
          rw [List.filter_cons_of_pos (by simp [e])]
          simp only [List.length_cons];omega
    omega
abbrev RuL:=List (Int × V × Tm)
def kvI (ps:RuL):List (Key × V):=ps.map fun p=>(Sum.inl p.1,p.2.1)
theorem Yf (ps:RuL):(kvI ps).length=ps.length:=List.length_map ..
theorem XT {ps:RuL} {m:Int} (h:m ∉ ps.map (·.1)):valV (kvI ps) (Sum.inl m:Key)=none:=by
  induction ps with
  | nil=>rfl
  | cons p r ih =>
    simp only [List.map_cons,List.mem_cons,not_or] at h
    show valV ((Sum.inl p.1,p.2.1) :: kvI r) _=none
    rw [QM (fun z=>h.1 (by cases z;rfl)),ih h.2]
theorem Ls {ps:RuL} {m:Int} (h:m ∈ ps.map (·.1)):∃ v,valV (kvI ps) (Sum.inl m:Key)=some v:=by
  induction ps with
  | nil=>simp at h
  | cons p r ih =>
    by_cases e:p.1=m
    · exact ⟨p.2.1,QR (p:=((Sum.inl p.1:Key),p.2.1)) (by show (Sum.inl p.1:Key)=_;rw [e])⟩
    · simp only [List.map_cons,List.mem_cons] at h
      rcases h with h | h
      · exact absurd h.symm e
      · obtain ⟨v,hv⟩:=ih h
        exact ⟨v,by show valV ((Sum.inl p.1,p.2.1) :: kvI r) _=some v;rw [QM (fun z=>e (by cases z;rfl)),hv]⟩
theorem MS {ps:RuL} {m:Int} {v:V} (u:Tm) (h:m ∉ ps.map (·.1)):putK (kvI ps) (Sum.inl m:Key) v=kvI (ps ++ [(m,v,u)]):=by
  rw [Mg v (XT h)]
  simp [kvI]
structure RuAt (K:PySem.W.Frag) (H:Hp) (d:Addr) (ps:RuL):Prop where
  d:H d=some (.dK (kvI ps))
  t:∀ p ∈ ps,TmV K H p.2.1 p.2.2
structure RlC (T:Tu) (c:Tree Str) (m:Int) (u:Tm):Prop where
  m0:0≤m
  ex:∃ md,T.ms[m.toNat]?=some md∧ruleK T.ks md (nmT c)=some u∧u ∈ md.2
  st:St T (u,c)
structure Ned (K:PySem.W.Frag) (H0 H:Hp) (T:Tu) (r:Tree Str) (ld:Addr) (es:List (Addr × RuL)) (dn:Int→Int→Prop):Prop where
  l:H ld=some (.lst (es.map fun e=>V.ref e.1))
  fl:H0 ld=none
  len:es.length=r.bs.length
  inj:∀ (i j:Nat) a b,es[i]?=some a→es[j]?=some b→a.1=b.1→i=j
  fr:∀ (i:Nat) e,es[i]?=some e→H0 e.1=none
  at':∀ (i:Nat) e,es[i]?=some e→H e.1=some (.dK (kvI e.2))∧(e.2.map (·.1)).Nodup
  ok:∀ (i:Nat) e c,es[i]?=some e→r.bs[i]?=some c→∀ p ∈ e.2,TmV K H p.2.1 p.2.2∧RlC T c p.1 p.2.2
  dn:∀ m b,dn m b→∃ e,es[b.toNat]?=some e∧m ∈ e.2.map (·.1)
theorem Ned.same {K:PySem.W.Frag} {H0 H H':Hp} {T:Tu} {r:Tree Str} {l:Addr} {es:List (Addr × RuL)} {dn:Int→Int→Prop} (g:Same H H') (h:Ned K H0 H T r l es dn):Ned K H0 H' T r l es dn :=
  ⟨g _ _ h.l,h.fl,h.len,h.inj,h.fr,fun i e he=>⟨g _ _ (h.at' i e he).1,(h.at' i e he).2⟩,fun i e c he hc p hp=>⟨(h.ok i e c he hc p hp).1.mono fun _ _=>g.seqT,(h.ok i e c he hc p hp).2⟩,h.dn⟩
theorem Ned.imp {K:PySem.W.Frag} {H0 H:Hp} {T:Tu} {r:Tree Str} {l:Addr} {es:List (Addr × RuL)} {dn dn':Int→Int→Prop} (h:Ned K H0 H T r l es dn) (k:∀ m b,dn' m b→∃ e,es[b.toNat]?=some e∧m ∈ e.2.map (·.1)):Ned K H0 H T r l es dn':=⟨h.l,h.fl,h.len,h.inj,h.fr,h.at',h.ok,k⟩
theorem Zp {α:Type} {es:List α} {i j:Nat} {x y:α} (h:(es.set i x)[j]?=some y):(j=i∧y=x)∨(j≠i∧es[j]?=some y):=by
  rw [List.getElem?_set] at h
  by_cases e:i=j
  · rw [if_pos e] at h
    split at h
    · exact .inl ⟨e.symm,(Option.some.inj h).symm⟩
    · cases h
  · rw [if_neg e] at h
    exact .inr ⟨Ne.symm e,h⟩
theorem Ned.put {K:PySem.W.Frag} {H0 H:Hp} {T:Tu} {r:Tree Str} {l:Addr} {es:List (Addr × RuL)} {dn:Int→Int→Prop} (h:Ned K H0 H T r l es dn) {i:Nat} {e:Addr × RuL} {c:Tree Str} {m:Int} {v:V} {u:Tm} (he:es[i]?=some e) (hc:r.bs[i]?=some c) (hm:m ∉ e.2.map (·.1)) (hv:TmV K H v u) (hr:RlC T c m u) :
    Ned K H0 (upd H e.1 (.dK (kvI (e.2 ++ [(m,v,u)])))) T r l (es.set i (e.1,e.2 ++ [(m,v,u)])) (fun m' b'=>dn m' b'∨(m'=m∧b'.toNat=i)):=by
  have hd:=(h.at' i e he).1
  have hi:i < es.length:=(List.getElem?_eq_some_iff.mp he).1
  have g:Mo K H (upd H e.1 (.dK (kvI (e.2 ++ [(m,v,u)])))):=Mo.dk hd SameX.upd
  have emap:(es.set i (e.1,e.2 ++ [(m,v,u)])).map (fun e=>V.ref e.1)=es.map fun e=>V.ref e.1:=by
    apply List.ext_getElem?
    intro j
    rw [List.getElem?_map,List.getElem?_map,List.getElem?_set]
    by_cases z:i=j
    · subst z
      rw [if_pos rfl,if_pos hi,he];rfl
    · rw [if_neg z]
  refine ⟨?_,h.fl,by rw [List.length_set];exact h.len,fun a b x y hx hy z=>?_,fun j x hx=>?_,fun j x hx=>?_,fun j x c' hx hc' p hp=>?_,fun m' b' hdn=>?_⟩
  · rw [emap,Qg (QK h.l hd (by intro z;cases z))];exact h.l
  · rcases Zp hx with ⟨rfl,rfl⟩ | ⟨_,hx'⟩ <;> rcases Zp hy with ⟨rfl,rfl⟩ | ⟨_,hy'⟩
    · rfl
    · exact h.inj _ _ _ _ he hy' z
    · exact h.inj _ _ _ _ hx' he z
    · exact h.inj _ _ _ _ hx' hy' z
  · rcases Zp hx with ⟨rfl,rfl⟩ | ⟨_,hx⟩
    · exact h.fr _ e he
    · exact h.fr _ _ hx
  · rcases Zp hx with ⟨rfl,rfl⟩ | ⟨nj,hx⟩
    · refine ⟨Qb,?_⟩
      show ((e.2 ++ [(m,v,u)]).map (·.1)).Nodup
      rw [List.map_append]
      refine List.nodup_append.mpr ⟨(h.at' _ e he).2,by simp,fun a ha b hb=>?_⟩
      have:b=m:=by simpa using hb
      rw [this]
      exact fun z=>hm (z ▸ ha)
    · refine ⟨?_,(h.at' _ _ hx).2⟩
      rw [Qg (fun z=>nj (h.inj _ _ _ _ hx he z))]
      exact (h.at' _ _ hx).1
  · rcases Zp hx with ⟨rfl,rfl⟩ | ⟨nj,hx⟩
    · obtain rfl:c'=c:=Option.some.inj (hc'.symm.trans hc)
      rcases List.mem_append.mp hp with hp | hp
      · exact ⟨(h.ok _ _ _ he hc _ hp).1.mono g.t,(h.ok _ _ _ he hc _ hp).2⟩
      · have:p=(m,v,u):=by simpa using hp
        rw [this]
        exact ⟨hv.mono g.t,hr⟩
    · exact ⟨(h.ok _ _ _ hx hc' _ hp).1.mono g.t,(h.ok _ _ _ hx hc' _ hp).2⟩
  · rcases hdn with hdn | ⟨rfl,hb⟩
    · obtain ⟨x,hx,hxm⟩:=h.dn _ _ hdn
      by_cases z:b'.toNat=i
      · rw [z] at hx
        obtain rfl:x=e:=Option.some.inj (hx.symm.trans he)
        refine ⟨(x.1,x.2 ++ [(m,v,u)]),by rw [z,List.getElem?_set,if_pos rfl,if_pos hi],?_⟩
        show m' ∈ (x.2 ++ [(m,v,u)]).map (·.1)
        rw [List.map_append]
        exact List.mem_append_left _ hxm
      · exact ⟨x,by rw [List.getElem?_set,if_neg (Ne.symm z)];exact hx,hxm⟩
    · exact ⟨(e.1,e.2 ++ [(m',v,u)]),by rw [hb,List.getElem?_set,if_pos rfl,if_pos hi],by simp⟩
def MO (K:PySem.W.Frag):Sp:=fun vs H Q _=>∃ (tu wd lm:Addr) (sv:V) (mo:List MdT) (T:Tu) (d:Addr) (ps:RuL) (rv:V) (r:Tree Str),vs=[.ref tu,.ref d,rv]∧TurnAt K H tu wd lm sv mo T∧TurnOk mo T∧mo.length≤10∧RuAt K H d ps∧TrV K H rv r∧(∀ p ∈ ps,St T (p.2.2,r)∧lv p.2.2≤8∧sz p.2.2≤100) ∧
  ∀ (l:Addr) (H':Hp) (es:List (Addr × RuL)),Same H H'→Ned K H H' T r l es (fun m b=>∃ p ∈ ps,(m,b) ∈ cls p.2.2)→Q (.ref l) H'
structure Wlk (K:PySem.W.Frag) (H0 H:Hp) (d:Addr) (o:Obj) (kvs:List (Key × V)) (T:Tu) (r:Tree Str) (l:Addr) (es:List (Addr × RuL)) (dn:Int→Int→Prop):Prop where
  x:SameX d H0 H
  d:H d=some (.frz o (.dK kvs))
  n:Ned K H0 H T r l es dn
theorem Wlk.same {K:PySem.W.Frag} {H0 H H':Hp} {d:Addr} {o:Obj} {kvs:List (Key × V)} {T:Tu} {r:Tree Str} {l:Addr} {es:List (Addr × RuL)} {dn:Int→Int→Prop} (g:Same H H') (h:Wlk K H0 H d o kvs T r l es dn):Wlk K H0 H' d o kvs T r l es dn:=⟨h.x.trans (SameX.of g),g _ _ h.d,h.n.same g⟩
section
variable {P:Program} {w:World} {K:PySem.W.Frag} {mg:Str→Option Value} {base:Heap} {f:Addr} {fd:FuncData}
theorem LB:FnScope ["turning", "rules", "tree", "needed", "rule", "mode", "branch"] ["turning", "rules", "tree"] (defScope GI):=⟨rfl,rfl,rfl,by decide +kernel,rfl,by decide +kernel,by decide +kernel⟩
theorem Ps (F:Fun K "called_below" "called_below" GI f fd) (G:Gm mg) (RO:Fn P w K mg base 9 "calls_of" ["term"] (W1 K 8)) (RR:Fn P w K mg base 2 "rule_of" ["turning", "mode", "name"] (W3 K)):FnOk P w K mg base CX0 10 f fd ["turning", "rules", "tree"] (MO K):=by
  refine F.ok LB (fun vs H Q E h=>?_) (fun cdv A outer s H vs Q E hr h=>?_)
  · obtain ⟨tu,wd,lm,sv,mo,T,d,ps,rv,r,rfl,_⟩:=h
    rfl
  obtain ⟨tu,wd,lm,sv,mo,T,d,ps,rv,r,rfl,hT,hO,hm10,hru,htr,hps,q⟩:=h
  refine ⟨_,(Qe (ZC (i:=3) (CompG.many (xs:=["branch"]) (caps:=[]) (cap:=[]) (cs:=[]) rfl rfl (by decide +kernel) (by decide +kernel) (by decide +kernel) (by decide +kernel) (by decide +kernel) (by decide +kernel) rfl rfl rfl) rfl (YZ (Qj Ql (pv 2) Qd (fun _ _=>rfl))) (Zk (CompG.many (xs:=["branch"]) (caps:=[]) (cap:=[]) (cs:=[]) rfl rfl (by decide +kernel) (by decide +kernel) (by decide +kernel) (by decide +kernel) (by decide +kernel) (by decide +kernel) rfl rfl rfl)) (fun _ _ _ _=>QX) (fun _ _ _ _=>Wk) LB.nd rfl rfl)
    (Qe (VC (QU PassesOwn.never rfl (Lw (GF PySem.F.plainAttrs_dict PySem.F.slot_dict_values PySem.F.type_dict_values Gu (pv 1))) (Qu (i:=4) LB.nd rfl (Or.inl rfl)) (Qi
      (QU PassesOwn.never rfl (QY (Qr RO hr (Qa (pv 4) Qc))) (ZY rfl (QF (Qu (i:=5) LB.nd rfl (Or.inl rfl)) (QF (Qu (i:=6) LB.nd rfl (Or.inl rfl)) Zq))) (Qi
        (QT (Lp (VL (ZL hr) (pv 5) (Qj Qk (pv 3) (pv 6) (fun _ _=>rfl)))) (Qi
          (Vf (ZL hr) (Qj Qk (pv 3) (pv 6) (fun _ _=>rfl)) (pv 5) (Qr RR hr (Qa (pv 0) (Qa (pv 5) (Qa (Qj Ql (Qj Ql (Qj Ql (pv 2) Qd (fun _ _=>rfl)) (pv 6) (fun _ _=>rfl)) Qd (fun _ _=>rfl)) Qc)))) rfl)) Qx))))))
    (Qi (Qp (pv 3))))),?_⟩
  cases htr with
  | @mk a b us ts name mark h1 h2 h3 h4 =>
  have hul:=h3.length
  refine ⟨_,rfl,a,_,2,_,rfl,rfl,h1,rfl,b,rfl,⟨_,h2⟩,fun acc hacc=>?_⟩
  refine Ww (K:=K) (xs:=us) (cs:=[]) (tt:=fun _ H Q=>Q true H) (te:=Wu) (fun i ys H'=>∃ as:List Addr,ys=as.map V.ref∧H' acc=some (.lst ys)∧Same H H'∧as.length=i∧(∀ (j:Nat) x,as[j]?=some x→H' x=some (.dK [])∧H x=none)∧∀ (i j:Nat) x y,as[i]?=some x→as[j]?=some y→x=y→i=j)
    ⟨[],rfl,Qb,Qf hacc _,rfl,fun j x h=>by simp at h,fun i j x y h=>by simp at h⟩ ?_ ?_ ?_
  · rintro i ys H' _ ⟨_,_,_,g,_⟩
    exact g.seqT h2
  · rintro i x ys H' hi hx ⟨as,rfl,hya,g,hal,has,hin⟩
    refine Q7 fun p hp=>?_
    have g2:=Qf hp (.dK [])
    have hya2:=g2 _ _ hya
    have hpa:p≠acc:=fun z=>by rw [z,hya] at hp;cases hp
    refine Qw (ys:=as.map V.ref) hi hya2 (by rw [List.length_map];omega) ⟨as ++ [p],by simp,Qb,fun x u e=>?_,by simp [hal],fun j x hx=>?_,fun i j x y hx hy=>?_⟩
    · rw [Qg (Qh e hacc)];exact g2 _ _ (g _ _ e)
    · rw [List.getElem?_append] at hx
      split at hx
      · obtain ⟨e1,e2⟩:=has j x hx
        refine ⟨?_,e2⟩
        rw [Qg (QK (g2 _ _ e1) hya2 (by intro z;cases z))];exact g2 _ _ e1
      · have e:x=p:=by
          have:=List.mem_of_getElem? hx
          simpa using this
        subst e
        exact ⟨by rw [Qg hpa];exact Qb,g.free hp⟩
    · have key:∀ (i:Nat) x,(as ++ [p])[i]?=some x→(i < as.length∧as[i]?=some x)∨(i=as.length∧x=p):=fun i x hx=>by
        rw [List.getElem?_append] at hx
        split at hx
        · exact .inl ⟨by assumption,hx⟩
        · have e:x=p:=by
            have:=List.mem_of_getElem? hx
            simpa using this
          have:=(List.getElem?_eq_some_iff.mp hx).1
          simp only [List.length_singleton] at this
          exact .inr ⟨by omega,e⟩
      intro z
      rcases key i x hx with ⟨_,hx⟩ | ⟨ei,ex⟩ <;> rcases key j y hy with ⟨_,hy⟩ | ⟨ej,ey⟩
      · exact hin _ _ _ _ hx hy z
      · have:=(has _ _ hx).1
        rw [z,ey,hp] at this;cases this
      · have:=(has _ _ hy).1
        rw [← z,ex,hp] at this;cases this
      · omega
  rintro ys H1 ⟨as,rfl,hya,g1,hal,has,hin⟩
  have hd1:=g1 _ _ hru.d
  have hN1:Ned K H H1 T (.node name mark ts) acc (as.map fun x=>(x,([]:RuL))) (fun _ _=>False):=by
    have key:∀ (i:Nat) e,(as.map fun x=>(x,([]:RuL)))[i]?=some e→as[i]?=some e.1∧e.2=[]:=fun i e he=>by
      rw [List.getElem?_map] at he
      cases h:as[i]? with
      | none=>rw [h] at he;cases he
      | some x=>rw [h] at he;cases he;exact ⟨rfl,rfl⟩
    refine ⟨by rw [List.map_map];exact hya,hacc,by rw [List.length_map,hal];exact hul,fun i j x y hx hy z=>hin _ _ _ _ (key _ _ hx).1 (key _ _ hy).1 z,fun i e he=>(has _ _ (key _ _ he).1).2,fun i e he=>?_,fun i e c he _ p hp=>?_,fun _ _ z=>z.elim⟩
    · rw [(key _ _ he).2]
      exact ⟨(has _ _ (key _ _ he).1).1,by simp⟩
    · rw [(key _ _ he).2] at hp
      cases hp
  refine ⟨d,kvI ps,hd1,_,rfl,.inr (.inr (.inl ⟨rfl,.inl ⟨_,hd1⟩⟩)),d,kvI ps,rfl,rfl,hd1,fun pv hpv=>⟨pv,d,kvI ps,rfl,Qb,Qf hpv _ _ _ hd1,fun o=>?_⟩⟩
  have g2:=Qf hpv (ValO pv d)
  have hd2:=g2 _ _ hd1
  have hN2:=hN1.same g2
  have gg:=g1.trans g2
  generalize upd H1 pv (ValO pv d)=H2 at g2 hd2 hN2 gg
  have hdn:∀ (i:Nat) (e:Addr × RuL) (es:List (Addr × RuL)),(∀ (i:Nat) e,es[i]?=some e→H e.1=none)→es[i]?=some e→e.1≠d:=fun i e es hf he z=>by
    have:=hf i e he
    rw [z,hru.d] at this;cases this
  have hW2:Wlk K H (upd H2 d (.frz o (.dK (kvI ps)))) d o (kvI ps) T (.node name mark ts) acc (as.map fun x=>(x,([]:RuL))) (fun m b=>∃ p ∈ ps.take 0,(m,b) ∈ cls p.2.2):=by
    have gm:Mo K H2 (upd H2 d (.frz o (.dK (kvI ps)))):=Mo.dk hd2 SameX.upd
    refine ⟨(SameX.of gg).trans SameX.upd,Qb,⟨?_,hN2.fl,hN2.len,hN2.inj,hN2.fr,fun i e he=>?_,fun i e c he hc p hp=>⟨(hN2.ok i e c he hc p hp).1.mono gm.t,(hN2.ok i e c he hc p hp).2⟩,fun m b h=>?_⟩⟩
    · rw [Qg (QK hN2.l hd2 (by intro z;cases z))];exact hN2.l
    · rw [Qg (hdn i e _ hN2.fr he)];exact hN2.at' i e he
    · obtain ⟨p,hp,_⟩:=h
      simp at hp
  refine VJ (d:=d) (o:=o) (kvs:=kvI ps) (fun i σ H'=>∃ (c4 c5 c6:Option V) (es:List (Addr × RuL)),σ=[some (.ref tu),some (.ref d),some (.ref a),some (.ref acc),c4,c5,c6]∧Wlk K H H' d o (kvI ps) T (.node name mark ts) acc es (fun m b=>∃ p ∈ ps.take i,(m,b) ∈ cls p.2.2))
    ⟨none,none,none,_,rfl,hW2⟩ ?_ ?_ ?_
  · rintro i σ H' _ ⟨_,_,_,_,_,hW⟩
    exact hW.d
  · rintro i k x σ H3 hx ⟨c4,c5,c6,es,rfl,hW⟩
    obtain ⟨p,hp,hpx⟩ : ∃ p,ps[i]?=some p∧p.2.1=x:=by
      rw [kvI,List.getElem?_map] at hx
      cases h:ps[i]? with
      | none=>rw [h] at hx;cases hx
      | some p=>rw [h] at hx;cases hx;exact ⟨p,rfl,rfl⟩
    subst hpx
    have hpm:=List.mem_of_getElem? hp
    obtain ⟨hst,hlv,hsz⟩:=hps p hpm
    have gm3:Mo K H H3:=Mo.dk hru.d hW.x
    refine ⟨_,rfl,p.2.1,p.2.2,rfl,(hru.t p hpm).mono gm3.t,hlv,Nat.le_trans hsz (by decide),fun lc H4 tx g4 hlcn hlc htx hcl=>⟨lc,rfl,⟨_,SqL.of hlc⟩,?_⟩⟩
    have hW4:=hW.same g4
    have htxl:tx.length=(cls p.2.2).length:=by
      have:=congrArg List.length hcl
      simpa using this
    refine YW (K:=K) (xs:=Rf tx) (fun j σ H'=>∃ (c5 c6:Option V) (es:List (Addr × RuL)),σ=[some (.ref tu),some (.ref d),some (.ref a),some (.ref acc),some p.2.1,c5,c6]∧Wlk K H H' d o (kvI ps) T (.node name mark ts) acc es (fun m b=>(∃ p ∈ ps.take i,(m,b) ∈ cls p.2.2)∨(m,b) ∈ (cls p.2.2).take j)∧SqL K H' lc (Rf tx)∧TsAt K H' tx)
      ⟨_,_,es,rfl,⟨hW4.x,hW4.d,hW4.n.imp fun m b h=>hW4.n.dn m b (by rcases h with h | h;exact h;simp at h)⟩,SqL.of hlc,htx⟩ ?_ ?_ ?_
    · rintro j σ H' _ ⟨_,_,_,_,_,h,_⟩
      exact h
    · rintro j x σ H5 hx ⟨c5,c6,es5,rfl,hW5,hlc5,htx5⟩
      have hj:j < tx.length:=by
        have:=(List.getElem?_eq_some_iff.mp hx).1
        simpa using this
      obtain rfl:x=.ref tx[j].1:=by
        rw [List.getElem?_map,List.getElem?_eq_getElem hj] at hx
        exact (Option.some.inj hx).symm
      have hjc:j < (cls p.2.2).length:=by omega
      have etx:tx[j].2=pr (cls p.2.2)[j]:=by
        have:=congrArg (fun l=>l[j]?) hcl
        simp only [List.getElem?_map,List.getElem?_eq_getElem hj,List.getElem?_eq_getElem hjc,Option.map_some] at this
        exact Option.some.inj this
      have htc:SqT K H5 tx[j].1 [.int (cls p.2.2)[j].1,.int (cls p.2.2)[j].2]:=by
        have:=htx5 tx[j] (List.getElem_mem hj)
        rw [etx] at this
        exact this
      have htake:(cls p.2.2).take (j + 1)=(cls p.2.2).take j ++ [(cls p.2.2)[j]]:=by rw [List.take_add_one,List.getElem?_eq_getElem hjc];rfl
      have hcm:(cls p.2.2)[j] ∈ cls p.2.2:=List.getElem_mem hjc
      generalize (cls p.2.2)[j]=c at htc htake hcm
      obtain ⟨m,bb⟩:=c
      obtain ⟨t,md,v,b0,m0,e1,e2,e3,e4,e5⟩:=hst.call hO.ok hcm
      have hrlc:RlC T t m v:=⟨m0,⟨md,e2,e3,e4⟩,e5⟩
      have ebb:bb=((bb.toNat:Nat):Int):=by omega
      have em:m=((m.toNat:Nat):Int):=by omega
      obtain ⟨e,he⟩ : ∃ e,es5[bb.toNat]?=some e:=⟨_,List.getElem?_eq_getElem (by rw [hW5.n.len];exact (List.getElem?_eq_some_iff.mp e1).1)⟩
      have hate:atI (es5.map fun e=>V.ref e.1) bb=some (.ref e.1):=by rw [ebb];exact Qv (by rw [List.getElem?_map,he];rfl)
      have hed:=(hW5.n.at' _ _ he).1
      refine ⟨_,_,rfl,htc,rfl,_,_,rfl,_,_,rfl,rfl,?_⟩
      by_cases hin:m ∈ e.2.map (·.1)
      · obtain ⟨x,hx⟩:=Ls hin
        refine ⟨_,rfl,_,rfl,_,rfl,acc,_,_,_,rfl,rfl,SqL.of hW5.n.l,hate,e.1,_,rfl,.inl ⟨_,.inl m,.inl hed,rfl,hx.symm⟩,_,rfl,Zu ?_⟩
        refine ⟨_,_,es5,rfl,⟨hW5.x,hW5.d,hW5.n.imp fun m' b' h=>?_⟩,hlc5,htx5⟩
        rcases h with h | h
        · exact hW5.n.dn _ _ (.inl h)
        · rw [htake] at h
          rcases List.mem_append.mp h with h | h
          · exact hW5.n.dn _ _ (.inr h)
          · have z:(m',b')=(m,bb):=by simpa using h
            cases z
            exact ⟨e,he,hin⟩
      · refine ⟨_,rfl,_,rfl,_,rfl,acc,_,_,_,rfl,rfl,SqL.of hW5.n.l,hate,e.1,_,rfl,.inl ⟨_,.inl m,.inl hed,rfl,(XT hin).symm⟩,_,rfl,Q7 ?_⟩
        obtain ⟨mt,hmt,emd,hml⟩:=hO.get e2
        have gm5:Mo K H H5:=Mo.dk hru.d hW5.x
        have hT5:=gm5.turn hT
        obtain ⟨tv,htv,htr⟩:=h3.get e1
        have hu5:atI us bb=some tv:=by rw [ebb];exact Qv htv
        have htr5:=htr.mono gm5.t
        cases htr5 with
        | @mk ta tb tus tts tname tmark k1 k2 k3 k4 =>
        refine ⟨_,rfl,_,rfl,_,rfl,a,_,2,_,rfl,rfl,gm5.t _ _ h1,rfl,_,rfl,b,_,_,_,rfl,rfl,gm5.t _ _ h2,hu5,ta,_,0,_,rfl,rfl,k1,rfl,?_⟩
        refine ⟨tu,wd,lm,sv,m.toNat,tname,T.ks,mo,mt,by rw [← em];rfl,hT5.tu,hT5.w,hO.wo,hT5.m,hmt,hml,fun v' H6 g6 hv'=>?_⟩
        have hv6:TmV K H6 v' v:=by
          rw [emd] at hv'
          have e3':ruleK T.ks md tname=some v:=e3
          rw [e3'] at hv'
          exact hv'
        have hW6:=hW5.same g6
        have hed6:=g6 _ _ hed
        have hfw:e.2.length≤10:=by
          have h1:=few (n:=mo.length) (fs:=e.2.map (·.1)) (hW5.n.at' _ _ he).2 fun m' hm'=>by
            obtain ⟨p',hp',rfl⟩:=List.mem_map.mp hm'
            obtain ⟨_,⟨mm,⟨md',z,_⟩,_⟩⟩:=hW5.n.ok _ _ _ he e1 p' hp'
            have z1:=(List.getElem?_eq_some_iff.mp z).1
            have z2:mo.length=T.ms.length:=by rw [← hO.me];simp [mds]
            omega
          rw [List.length_map] at h1
          omega
        refine ⟨_,rfl,_,rfl,acc,_,_,_,rfl,rfl,SqL.of hW6.n.l,hate,_,rfl,e.1,_,rfl,.inl ⟨_,.inl m,hed6,rfl,by rw [Yf,QH];omega,rfl⟩,?_⟩
        rw [MS v hin]
        have hNp:=hW6.n.put he e1 hin hv6 hrlc
        have gx:SameX e.1 H6 (upd H6 e.1 (.dK (kvI (e.2 ++ [(m,v',v)])))):=SameX.upd
        have gm6:Mo K H5 (upd H6 e.1 (.dK (kvI (e.2 ++ [(m,v',v)])))):=(Mo.of g6).trans (Mo.dk hed6 gx)
        have hne:e.1≠d:=hdn _ e es5 hW5.n.fr he
        have hfe:=hW5.n.fr _ _ he
        refine ⟨_,_,_,rfl,⟨fun x u n z=>?_,?_,hNp.imp fun m' b' h=>?_⟩,gm6.l _ _ hlc5,htx5.mono gm6.t⟩
        · rw [Qg (Qh z hfe)];exact hW6.x _ _ n z
        · rw [Qg (Ne.symm hne)];exact hW6.d
        · rcases h with h | h
          · exact hNp.dn _ _ (.inl (.inl h))
          · rw [htake] at h
            rcases List.mem_append.mp h with h | h
            · exact hNp.dn _ _ (.inl (.inr h))
            · have z:(m',b')=(m,bb):=by simpa using h
              cases z
              exact hNp.dn _ _ (.inr ⟨rfl,rfl⟩)
    · rintro σ H5 ⟨c5,c6,es5,rfl,hW5,_,_⟩
      refine ⟨_,_,_,es5,rfl,⟨hW5.x,hW5.d,hW5.n.imp fun m b h=>hW5.n.dn m b ?_⟩⟩
      obtain ⟨p',hp',hc'⟩:=h
      rw [List.take_add_one,hp] at hp'
      rcases List.mem_append.mp hp' with hp' | hp'
      · exact .inl ⟨p',hp',hc'⟩
      · have z:p'=p:=by simpa using hp'
        rw [z] at hc'
        refine .inr ?_
        rw [List.take_of_length_le (by rw [List.length_map];omega)]
        exact hc'
  · rintro σ H3 ⟨c4,c5,c6,es,rfl,hW⟩
    rw [Yf,List.take_of_length_le (Nat.le_refl _)] at hW
    refine ⟨⟨o,hW.d⟩,_,rfl,q acc _ es (fun x u e=>?_) ?_⟩
    · by_cases z:x=d
      · subst z
        rw [hru.d] at e
        rw [← e]
        exact Qb
      · rw [Qg z];exact hW.x _ _ z e
    · have gm:Mo K H3 (upd H3 d (.dK (kvI ps))):=Mo.fz hW.d SameX.upd
      refine ⟨?_,hW.n.fl,hW.n.len,hW.n.inj,hW.n.fr,fun i e he=>?_,fun i e c he hc p hp=>⟨(hW.n.ok i e c he hc p hp).1.mono gm.t,(hW.n.ok i e c he hc p hp).2⟩,hW.n.dn⟩
      · rw [Qg (QK hW.n.l hW.d (by intro z;cases z))];exact hW.n.l
      · rw [Qg (hdn i e _ hW.n.fr he)];exact hW.n.at' i e he
end
end K22
namespace K22
open PySem L2 TM TT K9 K11
theorem sxl {K:PySem.W.Frag} {H H':Hp} {lb:Addr} {ys:List V} (hl:H lb=some (.lst ys)) (g:SameX lb H H'):∀ a xs,SqT K H a xs→SqT K H' a xs:=by
  intro a xs h
  rcases h with (h | ⟨o,h⟩) | h
  · exact .inl (.inl (g _ _ (QK h hl (fun z=>nomatch z)) h))
  · exact .inl (.inr ⟨o,g _ _ (QK h hl (fun z=>nomatch z)) h⟩)
  · exact .inr h
theorem Ned.sx {K:PySem.W.Frag} {H0 H H':Hp} {T:Tu} {r:Tree Str} {l lb:Addr} {ys:List V} {es:List (Addr × RuL)} {dn:Int→Int→Prop} (hl:H lb=some (.lst ys)) (ne:l≠lb) (g:SameX lb H H') (h:Ned K H0 H T r l es dn):Ned K H0 H' T r l es dn :=
  ⟨g _ _ ne h.l,h.fl,h.len,h.inj,h.fr,fun i e he=>⟨g _ _ (QK (h.at' i e he).1 hl (fun z=>nomatch z)) (h.at' i e he).1,(h.at' i e he).2⟩,fun i e c he hc p hp=>⟨(h.ok i e c he hc p hp).1.mono (sxl hl g),(h.ok i e c he hc p hp).2⟩,h.dn⟩
theorem Rd.frz {H:Hp} {d x:Addr} {o:Obj} {kvs k:List (Key × V)} (hd:H d=some (.dK kvs)) (h:Rd H x (.dK k)):Rd (upd H d (.frz o (.dK kvs))) x (.dK k):=by
  by_cases e:x=d
  · subst e
    rcases h with h | ⟨ob,h⟩
    · rw [hd] at h
      cases h
      exact .inr ⟨o,Qb⟩
    · rw [hd] at h;cases h
  · rcases h with h | ⟨ob,h⟩
    · exact .inl (by rw [Qg e];exact h)
    · exact .inr ⟨ob,by rw [Qg e];exact h⟩
def kvO:List Int→List V→List (Key × V)
  | m :: ms,v :: vs=>(Sum.inl m,v) :: kvO ms vs
  | _,_=>[]
theorem Xi {α:Type} {R:Hp→V→α→Prop} {H:Hp} {g:Int × V × Tm→α} {m:Int}:∀ {ps:RuL} {os:List V},m ∈ ps.map (·.1)→RAll R H os (ps.map g)→∃ p ∈ ps,p.1=m∧∃ v,valV (kvO (ps.map (·.1)) os) (Sum.inl m:Key)=some v∧R H v (g p)
  | [],_,h,_=>by simp at h
  | p :: r,o :: os,h,.cons h1 h2=>by
    by_cases e:p.1=m
    · exact ⟨p,List.mem_cons_self,e,o,QR (p:=((Sum.inl p.1:Key),o)) (by show (Sum.inl p.1:Key)=_;rw [e]),h1⟩
    · simp only [List.map_cons,List.mem_cons] at h
      rcases h with h | h
      · exact absurd h.symm e
      · obtain ⟨q,hq,eq,v,hv,hR⟩:=Xi h h2
        exact ⟨q,List.mem_cons_of_mem _ hq,eq,v,by show valV ((Sum.inl p.1,o) :: kvO (r.map (·.1)) os) _=some v;rw [QM (fun z=>e (by cases z;rfl)),hv],hR⟩
theorem MV {ps:RuL}:∀ (ts:List (Addr × Key × V)),ts.map (fun t=>t.2.1)=ps.map (fun p=>(Sum.inl p.1:Key))→ts.map (fun t=>(t.2.1,t.2.2))=kvO (ps.map (·.1)) (ts.map fun t=>t.2.2):=by
  induction ps with
  | nil=>intro ts h;cases ts with
    | nil=>rfl
    | cons t r=>simp at h
  | cons p r ih=>intro ts h;cases ts with
    | nil=>simp at h
    | cons t s =>
      simp only [List.map_cons,List.cons.injEq] at h
      simp only [List.map_cons,kvO]
      rw [ih s h.2,h.1]
def TBd (T:Tu):Prop:=∀ md ∈ T.ms,∀ u ∈ md.2,lv u≤8∧sz u≤100
abbrev cvT {α:Type} (op:Lab→Int→List α→α) (dd:α) (T:Tu) (r:Tree Str):Int→Int→α:=fun m b=>(r.bs[b.toNat]?).elim dd fun c=>Zl op dd T.ks T.ms c m
structure Rck {α:Type} (R:Hp→V→α→Prop) (op:Lab→Int→List α→α) (dd:α) (T:Tu) (r:Tree Str) (es:List (Addr × RuL)) (H:Hp) (rs:List Addr):Prop where
  at':∀ (j:Nat) e c D,es[j]?=some e→r.bs[j]?=some c→rs[j]?=some D→∃ os,H D=some (.dK (kvO (e.2.map (·.1)) os))∧RAll R H os (e.2.map fun p=>valT op dd T p.2.2 c)
theorem Rck.bel {α:Type} {K:PySem.W.Frag} {R:Hp→V→α→Prop} {op:Lab→Int→List α→α} {dd:α} {T:Tu} {r:Tree Str} {es:List (Addr × RuL)} {H0 H:Hp} {rs:List Addr} {l:Addr} {u:Tm} {dn:Int→Int→Prop} (h:Rck R op dd T r es H rs) (n:Ned K H0 H T r l es dn) (hl:rs.length=r.bs.length) (hdn:∀ c ∈ cls u,0≤c.2∧dn c.1 c.2):BelAt R H rs (cvT op dd T r) (cls u):=fun c hc=>by
  obtain ⟨h0,hd⟩:=hdn c hc
  obtain ⟨e,he,hm⟩:=n.dn _ _ hd
  have hb:c.2.toNat < r.bs.length:=by rw [← n.len];exact (List.getElem?_eq_some_iff.mp he).1
  have hc':r.bs[c.2.toNat]?=some r.bs[c.2.toNat]:=List.getElem?_eq_getElem hb
  generalize r.bs[c.2.toNat]=t at hc'
  have hD:rs[c.2.toNat]?=some rs[c.2.toNat]:=List.getElem?_eq_getElem (by omega)
  generalize rs[c.2.toNat]'(by omega)=D at hD
  obtain ⟨os,e1,e2⟩:=h.at' _ _ _ _ he hc' hD
  obtain ⟨p,hp,ep,v,e3,e4⟩:=Xi hm e2
  obtain ⟨_,⟨_,⟨md,z1,z2,_⟩,_⟩⟩:=n.ok _ _ _ he hc' p hp
  refine ⟨h0,D,_,v,hD,.inl e1,e3,?_⟩
  show R H v (cvT op dd T r c.1 c.2)
  unfold cvT
  rw [hc']
  show R H v (Zl op dd T.ks T.ms t c.1)
  rw [← ep,Y3 z1 z2]
  exact e4
def ZR {α:Type} (K:PySem.W.Frag) (e:Expr) (R:Hp→V→α→Prop) (op:Lab→Int→List α→α) (dd:α) (n:Nat):Sp:=fun vs H Q _=>∃ (tu wd lm:Addr) (sv:V) (mo:List MdT) (T:Tu) (d:Addr) (ps:RuL) (rv:V) (r:Tree Str) (f:Addr),vs=[.ref tu,.ref d,rv,.ref f]∧TurnAt K H tu wd lm sv mo T∧TurnOk mo T∧TBd T∧mo.length≤10∧RuAt K H d ps∧(ps.map (·.1)).Nodup∧ps.length≤100∧TrV K H rv r∧lv r≤n∧(∀ p ∈ ps,St T (p.2.2,r)∧lv p.2.2≤8∧sz p.2.2≤100)∧LamAt H f e ∧
  ∀ (d':Addr) (H':Hp) (os:List V),Same H H'→H' d'=some (.dK (kvO (ps.map (·.1)) os))→RAll R H' os (ps.map fun p=>valT op dd T p.2.2 r)→Q (.ref d') H'
def U8 {α:Type} (K:PySem.W.Frag) (e:Expr) (R:Hp→V→α→Prop) (op:Lab→Int→List α→α) (dd:α):Sp:=fun vs H Q _=>∃ (tu wd lm:Addr) (sv:V) (mo:List MdT) (T:Tu) (v:V) (u:Tm) (rv:V) (t:Tree Str) (f:Addr),vs=[.ref tu,v,rv,.ref f]∧TurnAt K H tu wd lm sv mo T∧TurnOk mo T∧TBd T∧mo.length≤10∧TmV K H v u∧lv u≤8∧sz u≤100∧TrV K H rv t∧lv t≤40∧St T (u,upT t)∧LamAt H f e ∧
  ∀ (v':V) (H':Hp),Same H H'→R H' v' (valT op dd T u (upT t))→Q v' H'
section
variable {P:Program} {w:World} {K:PySem.W.Frag} {mg:Str→Option Value} {base:Heap} {f:Addr} {fd:FuncData}
theorem J0:FnScope ["turning", "rules", "tree", "make", "below", "branch", "called"] ["turning", "rules", "tree", "make"] (defScope UH):=⟨rfl,rfl,rfl,by decide +kernel,rfl,by decide +kernel,by decide +kernel⟩
theorem M6 {α:Type} {e:Expr} {R:Hp→V→α→Prop} {op:Lab→Int→List α→α} {dd:α} (hR:Rep K R) {n:Nat} (F:Fun K "reckoned" "reckoned" UH f fd) (G:Gm mg) (RB:Fn P w K mg base 10 "called_below" ["turning", "rules", "tree"] (MO K)) (RF:Fn P w K mg base 11 "filled" ["term", "mark", "below", "make"] (Zm K e R op 8)) (RR:Fn P w K mg base (n + 12) "reckoned" ["turning", "rules", "tree", "make"] (ZR K e R op dd n)) :
    FnOk P w K mg base CX0 (n + 13) f fd ["turning", "rules", "tree", "make"] (ZR K e R op dd (n + 1)):=by
  refine F.ok J0 (fun vs H Q E h=>?_) (fun cdv A outer s H vs Q E hr h=>?_)
  · obtain ⟨tu,wd,lm,sv,mo,T,d,ps,rv,r,fm,rfl,_⟩:=h
    rfl
  obtain ⟨tu,wd,lm,sv,mo,T,d,ps,rv,r,fm,rfl,hT,hO,hTB,hm10,hru,hnd,hpl,htr,hlv,hps,hL,q⟩:=h
  refine ⟨_,(Qe (Qn (i:=4) J0.nd rfl (Or.inr rfl) (QE Qc))
    (Qe (QU PassesOwn.never rfl (MN rfl G.zip (Qa (Qj Ql (pv 2) Qd (fun _ _=>rfl)) (Qa (Qr RB hr (Qa (pv 0) (Qa (pv 1) (Qa (pv 2) Qc))) (by omega)) Qc))) (ZY rfl (QF (Qu (i:=5) J0.nd rfl (Or.inl rfl)) (QF (Qu (i:=6) J0.nd rfl (Or.inl rfl)) Zq))) (Qi
      (Q2 (ZB PySem.F.plainAttrs_list PySem.F.slot_list_append PySem.F.type_list_append Q0 (pv 4) (Qa (Qr RR hr (Qa (pv 0) (Qa (pv 6) (Qa (pv 5) (Qa (pv 3) Qc)))) (Nat.le_refl _)) Qc)))))
    (Qi (VC (Qp (QB (WK rfl) rfl G.dct PyProof.Rows.boot_dict (Qa (QI (CompG.many (xs:=["mode", "rule"]) (caps:=["below", "make", "tree"]) (cap:=[4,3,2]) (cs:=[_,_,_]) rfl rfl (by decide +kernel) (by decide +kernel) (by decide +kernel) (by decide +kernel) (by decide +kernel) (by decide +kernel) rfl rfl rfl) rfl (VQ (GF PySem.F.plainAttrs_dict PySem.F.slot_dict_items PySem.F.type_dict_items Ln (pv 1))) (X2 (CompG.many (xs:=["mode", "rule"]) (caps:=["below", "make", "tree"]) (cap:=[4,3,2]) (cs:=[_,_,_]) rfl rfl (by decide +kernel) (by decide +kernel) (by decide +kernel) (by decide +kernel) (by decide +kernel) (by decide +kernel) rfl rfl rfl) rfl) (fun _ _ _ _=>QX) (fun _ _ _ _=>(QJ (Qa (pv 0) (Qa (Qr RF hr (Qa (pv 1) (Qa (Qj (r:=Gr K) Ql (pv 4) Qd (fun _ _=>rfl)) (Qa (pv 2) (Qa (pv 3) Qc)))) (by omega)) Qc))))) Qc))))))),?_⟩
  cases htr with
  | @mk a b us ts name mark h1 h2 h3 h4 =>
  have hul:=h3.length
  rw [Zn] at hlv
  refine ⟨(by show 0≤sizeLine;decide),fun lb hlb=>?_⟩
  have g0:=Qf hlb (.lst [])
  have hlb0:upd H lb (.lst []) lb=some (.lst []):=Qb
  generalize upd H lb (.lst [])=H0 at g0 hlb0
  have hru0:RuAt K H0 d ps:=⟨g0 _ _ hru.d,fun p hp=>(hru.t p hp).mono fun _ _=>g0.seqT⟩
  refine ⟨_,rfl,a,_,2,_,rfl,rfl,g0.seqT h1,rfl,_,rfl,_,rfl,_,rfl,?_⟩
  refine ⟨tu,wd,lm,sv,mo,T,d,ps,.ref a,.node name mark ts,rfl,hT.same g0,hO,hm10,hru0,.mk (g0.seqT h1) (g0.seqT h2) (h3.mono fun _ _=>g0.seqT) h4,hps,fun l H1 es g1 hN=>?_⟩
  have hll:l≠lb:=fun z=>by
    have:=hN.fl
    rw [z,hlb0] at this;cases this
  have g01:=g0.trans g1
  have hel:us.length=(es.map fun e=>V.ref e.1).length:=by rw [List.length_map,hN.len];exact hul
  refine ⟨b,l,us,_,rfl,g01.seqT h2,SqL.of hN.l,?_⟩
  refine GR (K:=K) hel (fun i σ H'=>∃ (c5 c6:Option V) (rs:List Addr),σ=[some (.ref tu),some (.ref d),some (.ref a),some (.ref fm),some (.ref lb),c5,c6]∧Same H H'∧H' lb=some (.lst (rs.map V.ref))∧rs.length=i∧Ned K H0 H' T (.node name mark ts) l es (fun m b=>∃ p ∈ ps,(m,b) ∈ cls p.2.2)∧Rck R op dd T (.node name mark ts) es H' rs)
    ⟨none,none,[],rfl,g01,g1 _ _ hlb0,rfl,hN,⟨fun j e c D _ _ h=>by simp at h⟩⟩ ?_ ?_ ?_
  · rintro i σ H' _ ⟨_,_,_,_,g,_,_,hN',_⟩
    exact ⟨g.seqT h2,SqL.of hN'.l⟩
  · rintro i u v p σ H2 hu hv hp ⟨c5,c6,rs,rfl,g2,hlb2,hrl,hN2,hK2⟩
    have k:=Qf hp (.tup [u,v])
    have hpt:upd H2 p (.tup [u,v]) p=some (.tup [u,v]):=Qb
    have hlb3:=k _ _ hlb2
    have hN3:=hN2.same k
    have g3:=g2.trans k
    have hK3:Rck R op dd T (.node name mark ts) es (upd H2 p (.tup [u,v])) rs:=⟨fun j e c D he hc hD=>by
      obtain ⟨os,e1,e2⟩:=hK2.at' j e c D he hc hD
      exact ⟨os,k _ _ e1,e2.imp fun h=>hR _ _ _ _ (fun _ _=>k.seqT) h⟩⟩
    generalize upd H2 p (.tup [u,v])=H3 at hpt hlb3 hN3 g3 hK3
    have hil:i < ts.length:=by
      have:=(List.getElem?_eq_some_iff.mp hu).1
      omega
    have hci:ts[i]?=some ts[i]:=List.getElem?_eq_getElem hil
    generalize ts[i]=c at hci
    obtain ⟨u',hu',hc3⟩:=h3.get hci
    obtain rfl:u'=u:=Option.some.inj (hu'.symm.trans hu)
    obtain ⟨e',he,rfl⟩ : ∃ e',es[i]?=some e'∧V.ref e'.1=v:=by
      rw [List.getElem?_map] at hv
      cases h:es[i]? with
      | none=>rw [h] at hv;cases hv
      | some x=>rw [h] at hv;exact ⟨x,rfl,Option.some.inj hv⟩
    have hcb:(Tree.node name mark ts:Tree Str).bs[i]?=some c:=hci
    have hok:=hN3.ok i e' c he hcb
    have hat:=hN3.at' i e' he
    have hlc:lv c≤n:=by
      have:=Ud (List.mem_of_getElem? hcb)
      omega
    have hmem:∀ p ∈ e'.2,0≤p.1∧p.1 < ((mo.length:Nat):Int):=fun p hp=>by
      obtain ⟨_,⟨mm,⟨md',z,_⟩,_⟩⟩:=hok p hp
      have z1:=(List.getElem?_eq_some_iff.mp z).1
      have z2:mo.length=T.ms.length:=by rw [← hO.me];simp [mds]
      omega
    have hfw:e'.2.length≤10:=by
      have h1:=few (n:=mo.length) (fs:=e'.2.map (·.1)) hat.2 fun m' hm'=>by
        obtain ⟨p',hp',rfl⟩:=List.mem_map.mp hm'
        exact hmem p' hp'
      rw [List.length_map] at h1
      omega
    refine ⟨p,_,rfl,SqT.of hpt,rfl,_,_,rfl,_,_,rfl,rfl,?_⟩
    refine ⟨_,rfl,.inl ⟨rfl,_,SqL.of hlb3⟩,_,rfl,_,rfl,_,rfl,_,rfl,?_⟩
    refine ⟨tu,wd,lm,sv,mo,T,e'.1,e'.2,u',c,fm,rfl,hT.same g3,hO,hTB,hm10,⟨hat.1,fun p hp=>(hok p hp).1⟩,hat.2,by omega,hc3.mono fun _ _=>g3.seqT,hlc,fun p hp=>?_,hL.same g3,fun D H4 os g4 hD hos=>?_⟩
    · obtain ⟨_,⟨_,⟨md,z1,_,z3⟩,z4⟩⟩:=hok p hp
      obtain ⟨y1,y2⟩:=hTB md (List.mem_of_getElem? z1) _ z3
      exact ⟨z4,y1,y2⟩
    have hlb4:=g4 _ _ hlb3
    refine ⟨lb,_,_,rfl,rfl,hlb4,by rw [List.length_map,QH];omega,?_⟩
    have gx:SameX lb H4 (upd H4 lb (.lst (rs.map V.ref ++ [.ref D]))):=SameX.upd
    refine ⟨_,_,rs ++ [D],rfl,fun x u e=>?_,by rw [Qb];simp,by simp [hrl],(hN3.same g4).sx hlb4 hll gx,⟨fun j e c' D' he' hc' hD'=>?_⟩⟩
    · rw [Qg (Qh e hlb)];exact g4 _ _ (g3 _ _ e)
    · rw [List.getElem?_append] at hD'
      split at hD'
      · obtain ⟨os',e1,e2⟩:=hK3.at' j e c' D' he' hc' hD'
        have e1':=g4 _ _ e1
        exact ⟨os',gx _ _ (QK e1' hlb4 (fun z=>nomatch z)) e1',e2.imp fun h=>hR _ _ _ _ (fun _ _ h=>sxl hlb4 gx _ _ (g4.seqT h)) h⟩
      · have hjl:=(List.getElem?_eq_some_iff.mp hD').1
        simp only [List.length_singleton] at hjl
        have ej:j=i:=by omega
        subst ej
        obtain rfl:e=e':=Option.some.inj (he'.symm.trans he)
        obtain rfl:c'=c:=Option.some.inj (hc'.symm.trans hcb)
        have eD:D'=D:=by
          have:=List.mem_of_getElem? hD'
          simpa using this
        subst eD
        exact ⟨os,gx _ _ (QK hD hlb4 (fun z=>nomatch z)) hD,hos.imp fun h=>hR _ _ _ _ (sxl hlb4 gx) h⟩
  · rintro σ H2 ⟨c5,c6,rs,rfl,g2,hlb2,hrl,hN2,hK2⟩
    have hd2:=g2 _ _ hru.d
    have hrl':rs.length=(Tree.node name mark ts:Tree Str).bs.length:=by rw [hrl];exact hul
    refine ⟨d,kvI ps,hd2,_,rfl,.inr (.inr (.inl ⟨rfl,.inl ⟨_,hd2⟩⟩)),d,kvI ps,rfl,rfl,hd2,fun pv hpv=>⟨pv,d,kvI ps,rfl,Qb,Qf hpv _ _ _ hd2,fun o=>fun acc hacc=>?_⟩⟩
    have k:=Qf hpv (ItmO pv d)
    have hd3:=k _ _ hd2
    have g3:=g2.trans k
    have hlb3:=k _ _ hlb2
    have hN3:=hN2.same k
    have hK3:Rck R op dd T (.node name mark ts) es (upd H2 pv (ItmO pv d)) rs:=⟨fun j e c D he hc hD=>by
      obtain ⟨os,e1,e2⟩:=hK2.at' j e c D he hc hD
      exact ⟨os,k _ _ e1,e2.imp fun h=>hR _ _ _ _ (fun _ _=>k.seqT) h⟩⟩
    generalize upd H2 pv (ItmO pv d)=H3 at hd3 g3 hlb3 hN3 hK3 hacc ⊢
    have gx:SameX d H3 (upd H3 d (.frz o (.dK (kvI ps)))):=SameX.upd
    have gm:Mo K H3 (upd H3 d (.frz o (.dK (kvI ps)))):=Mo.dk hd3 gx
    have hd4:upd H3 d (.frz o (.dK (kvI ps))) d=some (.frz o (.dK (kvI ps))):=Qb
    have hbel:∀ p ∈ ps,BelAt R (upd H3 d (.frz o (.dK (kvI ps)))) rs (cvT op dd T (.node name mark ts)) (cls p.2.2):=fun p hp c hc=>by
      obtain ⟨z0,D,kvs,v,z1,z2,z3,z4⟩:=hK3.bel hN3 hrl' (u:=p.2.2) (fun c hc=>⟨by
        obtain ⟨_,_,_,b0,_⟩:=(hps p hp).1.call hO.ok hc
        exact b0,p,hp,hc⟩) c hc
      exact ⟨z0,D,kvs,v,z1,Rd.frz hd3 z2,z3,hR _ _ _ _ gm.t z4⟩
    have hL4:LamAt (upd H3 d (.frz o (.dK (kvI ps)))) fm e:=by
      obtain ⟨qq,pm,cc,ctv,y1,y2⟩:=(hL.same g3).ex
      exact ⟨qq,pm,cc,ctv,gx _ _ (QK y1 hd3 (fun z=>nomatch z)) y1,gx _ _ (QK y2 hd3 (fun z=>nomatch z)) y2⟩
    have h14:=gm.t _ _ (g3.seqT h1)
    have hlb4:=gm.l _ _ (SqL.of hlb3)
    have ht4:∀ p ∈ ps,TmV K (upd H3 d (.frz o (.dK (kvI ps)))) p.2.1 p.2.2:=fun p hp=>(hru.t p hp).mono fun _ _ h=>gm.t _ _ (g3.seqT h)
    have gx0:SameX d H (upd H3 d (.frz o (.dK (kvI ps)))):=(SameX.of g3).trans gx
    generalize upd H3 d (.frz o (.dK (kvI ps)))=H4 at hd4 hbel hL4 h14 hlb4 ht4 gx0 hacc ⊢
    refine V9 (K:=K) (d:=d) (o:=o) (kvs:=kvI ps) (cs:=[some (.ref lb),some (.ref fm),some (.ref a)]) (tt:=fun _ H Q=>Q true H) (te:=Mm (Q3 (Zf 0) (Q3 (X6 (Zm K e R op 8) [] E0 (Q3 (Zf 1) (Q3 (tOp (Gr K) (Zf 4) (tC (.int 1))) (Q3 (Zf 2) (Q3 (Zf 3) UA))))) UA)))
      (fun i ys H'=>∃ xs:List (Addr × Key × V),ys=xs.map (fun x=>V.ref x.1)∧H' acc=some (.lst ys)∧Same H4 H'∧xs.map (fun x=>x.2.1)=(ps.take i).map (fun p=>(Sum.inl p.1:Key))∧xs.length=i∧(∀ x ∈ xs,SqT K H' x.1 [kV x.2.1,x.2.2])∧RAll R H' (xs.map fun x=>x.2.2) ((ps.take i).map fun p=>valT op dd T p.2.2 (.node name mark ts)))
      ⟨[],rfl,Qb,Qf hacc _,rfl,rfl,fun x hx=>(nomatch hx),.nil⟩ ?_ ?_ ?_
    · rintro i ys H' _ ⟨_,_,_,g,_⟩
      exact g _ _ hd4
    · rintro i k' v p ys H5 hi hkv hp ⟨xs,rfl,hya,g5,hxk,hxl,hxa,hxr⟩
      have k5:=Qf hp (.tup [kV k',v])
      have hya6:=k5 _ _ hya
      have g6:=g5.trans k5
      have hxa6:∀ x ∈ xs,SqT K (upd H5 p (.tup [kV k',v])) x.1 [kV x.2.1,x.2.2]:=fun x hx=>k5.seqT (hxa x hx)
      have hxr6:=hxr.imp (H':=upd H5 p (.tup [kV k',v])) fun h=>hR _ _ _ _ (fun _ _=>k5.seqT) h
      generalize upd H5 p (.tup [kV k',v])=H6 at hya6 g6 hxa6 hxr6
      rw [Yf] at hi
      have hpi:ps[i]?=some ps[i]:=List.getElem?_eq_getElem hi
      generalize ps[i]=pp at hpi
      have hkv':(kvI ps)[i]?=some (Sum.inl pp.1,pp.2.1):=by rw [kvI,List.getElem?_map,hpi];rfl
      rw [hkv'] at hkv
      cases hkv
      have hpm:=List.mem_of_getElem? hpi
      refine Q7 ⟨_,rfl,_,rfl,_,rfl,a,_,1,_,rfl,rfl,g6.seqT h14,rfl,_,rfl,_,rfl,?_⟩
      refine ⟨pp.2.1,pp.2.2,mark,lb,fm,rs,cvT op dd T (.node name mark ts),rfl,(ht4 pp hpm).mono fun _ _=>g6.seqT,(hps pp hpm).2.1,(hps pp hpm).2.2,g6.seq hlb4,(hbel pp hpm).same hR g6,hL4.same g6,fun v' H7 g7 hv'=>?_⟩
      refine ⟨(by show 2≤sizeLine;decide),fun t ht=>?_⟩
      have k8:=Qf ht (.tup [.int pp.1,v'])
      have g48:=g6.trans (g7.trans k8)
      have hya8:=k8 _ _ (g7 _ _ hya6)
      have ht8:upd H7 t (.tup [.int pp.1,v']) t=some (.tup [.int pp.1,v']):=Qb
      have hv8:=hR _ _ _ _ (fun _ _=>k8.seqT) hv'
      have hxa8:∀ x ∈ xs,SqT K (upd H7 t (.tup [.int pp.1,v'])) x.1 [kV x.2.1,x.2.2]:=fun x hx=>k8.seqT (g7.seqT (hxa6 x hx))
      have hxr8:=hxr6.imp (H':=upd H7 t (.tup [.int pp.1,v'])) fun h=>hR _ _ _ _ (fun _ _ h=>k8.seqT (g7.seqT h)) h
      refine Qw (ys:=xs.map fun x:Addr × Key × V=>V.ref x.1) (by rw [Yf];exact hi) hya8 (by rw [List.length_map];omega) ⟨xs ++ [(t,Sum.inl pp.1,v')],by simp,Qb,fun x u e=>?_,?_,by simp [hxl],fun x hx=>?_,?_⟩
      · rw [Qg (Qh e hacc)];exact g48 _ _ e
      · rw [List.map_append,hxk,List.take_add_one,hpi];simp
      · rcases List.mem_append.mp hx with hx | hx
        · exact (hxa8 x hx).put hya8
        · have ex:x=(t,Sum.inl pp.1,v'):=by simpa using hx
          subst ex
          exact (SqT.of ht8).put hya8
      · rw [List.take_add_one,hpi]
        show RAll R _ ((xs ++ [(t,(Sum.inl pp.1:Key),v')]).map fun x=>x.2.2) ((ps.take i ++ [pp]).map fun p=>valT op dd T p.2.2 (.node name mark ts))
        rw [List.map_append,List.map_append]
        exact RAll.append (hxr8.imp fun h=>hR _ _ _ _ (fun _ _ h=>h.put hya8) h) (.cons (hR _ _ _ _ (fun _ _ h=>h.put hya8) hv8) .nil)
    · rintro ys H5 ⟨xs,rfl,hya,g5,hxk,hxl,hxa,hxr⟩
      rw [Yf] at hxl
      rw [Yf,List.take_of_length_le (Nat.le_refl _)] at hxk hxr
      refine ⟨acc,xs,rfl,SqL.of hya,hxa,?_,by omega,fun d' hd'=>?_⟩
      · have ee:ps.map (fun p=>(Sum.inl p.1:Key))=(ps.map (·.1)).map (fun m=>(Sum.inl m:Key)):=by rw [List.map_map];rfl
        rw [hxk,ee]
        exact List.Pairwise.map _ (fun a b hab z=>hab (by cases z;rfl)) hnd
      have k6:=Qf hd' (.dK (xs.map fun t=>(t.2.1,t.2.2)))
      have hd6:=k6 _ _ (g5 _ _ hd4)
      refine ⟨⟨o,hd6⟩,q d' _ (xs.map fun x=>x.2.2) (fun x u e=>?_) ?_ ?_⟩
      · by_cases z:x=d
        · subst z
          rw [hru.d] at e
          rw [← e]
          exact Qb
        · rw [Qg z];exact k6 _ _ (g5 _ _ (gx0 _ _ z e))
      · have hne:d'≠d:=fun z=>by rw [z,g5 _ _ hd4] at hd';cases hd'
        rw [Qg hne,Qb,MV (ps:=ps) xs hxk]
      · have gm6:Mo K (upd H5 d' (.dK (xs.map fun t=>(t.2.1,t.2.2)))) (upd (upd H5 d' (.dK (xs.map fun t=>(t.2.1,t.2.2)))) d (.dK (kvI ps))):=Mo.fz hd6 SameX.upd
        exact hxr.imp fun h=>hR _ _ _ _ (fun _ _ h=>gm6.t _ _ (k6.seqT h)) h
end
end K22
namespace K22
open PySem L2 TM TT K9 K11
section
variable {P:Program} {w:World} {K:PySem.W.Frag} {mg:Str→Option Value} {base:Heap} {f:Addr} {fd:FuncData}
theorem Ga {α:Type} {e:Expr} {R:Hp→V→α→Prop} {op:Lab→Int→List α→α} {dd:α} {k:Nat}:FnOk P w K mg base CX0 k f fd ["turning", "rules", "tree", "make"] (ZR K e R op dd 0):=by
  have no:∀ vs H Q E,¬ ZR K e R op dd 0 vs H Q E:=fun vs H Q E h=>by
    obtain ⟨tu,wd,lm,sv,mo,T,d,ps,rv,r,fm,_,_,_,_,_,_,_,_,_,h0,_⟩:=h
    rw [Zn] at h0;omega
  exact ⟨fun vs H Q E h=>absurd h (no vs H Q E),fun A outer s H args us vs Q E _ _ _ _ h=>absurd h (no vs H Q E)⟩
theorem YV {α:Type} {e:Expr} {R:Hp→V→α→Prop} {op:Lab→Int→List α→α} {dd:α} (hR:Rep K R) (F:Fun K "reckoned" "reckoned" UH f fd) (G:Gm mg) (RB:Fn P w K mg base 10 "called_below" ["turning", "rules", "tree"] (MO K)) (RF:Fn P w K mg base 11 "filled" ["term", "mark", "below", "make"] (Zm K e R op 8)) (hb:Binds K fd ["turning", "rules", "tree", "make"] []) (hm:mg "reckoned" = some (.ref f)):∀ n:Nat,FnOk P w K mg base CX0 (n + 12) f fd ["turning", "rules", "tree", "make"] (ZR K e R op dd n)
  | 0=>Ga
  | n + 1=>M6 hR F G RB RF ⟨f,fd,YV hR F G RB RF hb hm n,hb,F.kp,hm⟩
theorem PB:FnScope ["turning", "term", "tree", "make"] ["turning", "term", "tree", "make"] (defScope OP):=⟨rfl,rfl,rfl,by decide +kernel,rfl,by decide +kernel,by decide +kernel⟩
theorem Wx {α:Type} {e:Expr} {R:Hp→V→α→Prop} {op:Lab→Int→List α→α} {dd:α} (F:Fun K "outcome" "outcome" OP f fd) (RA:Fn P w K mg base 1 "above" ["tree"] (Xu K)) (RK:Fn P w K mg base 53 "reckoned" ["turning", "rules", "tree", "make"] (ZR K e R op dd 41)):FnOk P w K mg base CX0 54 f fd ["turning", "term", "tree", "make"] (U8 K e R op dd):=by
  refine F.ok PB (fun vs H Q E h=>?_) (fun cdv A outer s H vs Q E hr h=>?_)
  · obtain ⟨tu,wd,lm,sv,mo,T,v,u,rv,t,fm,rfl,_⟩:=h
    rfl
  obtain ⟨tu,wd,lm,sv,mo,T,v,u,rv,t,fm,rfl,hT,hO,hTB,hm10,hv,hlu,hsu,htr,hlt,hst,hL,q⟩:=h
  refine ⟨_,(Qi (Qp (Zy (ZL hr) (Qr RK hr (Qa (pv 0) (Qa (M7 (Lb Qd (pv 1) Nl) rfl rfl (by decide) (by decide)) (Qa (Qr RA hr (Qa (pv 2) Qc)) (Qa (pv 3) Qc))))) Qd (fun _ _=>rfl)))),?_⟩
  refine ⟨_,rfl,fun d hd=>?_⟩
  have g1:=Qf hd (.dK [])
  refine ⟨_,rfl,Qb,[(Sum.inl 0,v)],rfl,(by show 1≤15;decide),?_⟩
  have e1:Y9 ([]:List (Key × V)) [(Sum.inl 0,v)]=kvI [(0,v,u)]:=rfl
  rw [e1]
  have g2:Same H (upd (upd H d (.dK [])) d (.dK (kvI [(0,v,u)]))):=fun x y z=>by rw [Qg (Qh z hd)];exact g1 _ _ z
  have hd2:upd (upd H d (.dK [])) d (.dK (kvI [(0,v,u)])) d=some (.dK (kvI [(0,v,u)])):=Qb
  generalize upd (upd H d (.dK [])) d (.dK (kvI [(0,v,u)]))=H2 at g2 hd2
  refine ⟨_,rfl,rv,t,rfl,htr.mono fun _ _=>g2.seqT,fun v' H3 g3 hup=>⟨_,rfl,?_⟩⟩
  have g:=g2.trans g3
  refine ⟨tu,wd,lm,sv,mo,T,d,[(0,v,u)],v',upT t,fm,rfl,hT.same g,hO,hTB,hm10,⟨g3 _ _ hd2,fun p hp=>?_⟩,by simp,(by show 1≤100;decide),hup,by rw [NP];omega,fun p hp=>?_,hL.same g,fun d' H4 os g4 hd4 hos=>?_⟩
  · have:p=(0,v,u):=by simpa using hp
    rw [this]
    exact hv.mono fun _ _=>g.seqT
  · have:p=(0,v,u):=by simpa using hp
    rw [this]
    exact ⟨hst,hlu,hsu⟩
  · obtain ⟨p,hp,_,x,e2,e3⟩:=Xi (m:=0) (ps:=[(0,v,u)]) (by simp) hos
    have:p=(0,v,u):=by simpa using hp
    rw [this] at e3
    exact ⟨d',x,rfl,.inl ⟨_,.inl 0,.inl hd4,rfl,e2.symm⟩,q x H4 (g.trans g4) e3⟩
end
end K22
namespace L2
open PySem PySem.Spec PyProof.Rows
theorem V1 {P:Program} {w:World} {K:PySem.W.Frag} {mg mb:Str→Option Value} {k:Nat} {fa a:Addr} {fd:FuncData} {x:Str} {sp:Sp} {s₁:Shared} {vs:List Value} {ns:List Int} {Ts:List Addr}
    (KX:K.In s₁.heap) (hns:s₁.heap.Ns mainGlobals mg) (hb:s₁.heap.Ns builtinsNs mb) (hbb:∀ x:Str,x ≠ "__name__" → mb x=bootBuiltins x) (hlim:s₁.heap.NoLimit) (hg:s₁.gens=#[]) (hbt:U4 mg s₁.heap)
    (hTs:∀ T ∈ Ts,s₁.heap.get? T=some { cls:=.none,data:=.fields #[] }∧isCodeTable s₁.heap T∧K.lookup T=none)
    (ha:s₁.heap.get? a=some { cls:=.type "list", data:=.seq vs.toArray }) (hi:IntsAre vs ns) (hl:ns.length≤sizeLine) (hr:Room k callerA)
    (F:∀ base:Heap,K.In base→base.Ns mainGlobals mg→U4 mg base→FnOk P w K mg base CX0 k fa fd [x] sp) (hbind:∀ (s:Shared) (u:Value),BindsTo s fd ⟨[u],[]⟩ [(x,u)])
    (hsp:∀ H:Hp,SqL K H a (ns.map V.int)→(∀ T ∈ Ts,H T=some (.tbl #[]))→sp [.ref a] H (fun v _=>v=.bl true) fun _ _ _=>False) :
    codeAny (model P w) callerA (.call (.ref fa) ⟨[.ref a],[]⟩) (fun r s'=>r=.ok (.ret (.bool true))∧OldK s₁.heap s'.heap∧s'.os=s₁.os∧AllBare s'.gens) s₁:=by
  have rv:=Y0 hi
  have lenV:=hi.length
  have core:∀ H:Hp,(∀ b,H b=none∨(b=a∧K.lookup a=none∧∃ o xs,H b=some (.frz o (.lst xs)))∨(b ∈ Ts∧H b=some (.tbl #[])))→SqL K H a (ns.map V.int)→(∀ T ∈ Ts,H T=some (.tbl #[]))→HOk P w H s₁.heap →
      codeAny (model P w) callerA (.call (.ref fa) ⟨[.ref a],[]⟩) (fun r s'=>r=.ok (.ret (.bool true))∧OldK s₁.heap s'.heap∧s'.os=s₁.os∧AllBare s'.gens) s₁:=by
    intro H hO hS hT hok
    have base_of:∀ {b:Addr} {o:Obj},s₁.heap.get? b=some o→H b=none→(Ys s₁.heap H).get? b=some o:=fun e n=>Wh e n
    have noA:∀ {b:Addr} {o:Obj},s₁.heap.get? b=some o→(∀ xs n,o.data≠.seq xs n)→(∀ xs,o.data≠.fields xs)→H b=none:=fun {b o} e d1 d2=>by
      rcases hO b with z | ⟨rfl,_⟩ | ⟨z,_⟩
      · exact z
      · rw [ha] at e;cases e
        exact absurd rfl (d1 _ _)
      · rw [(hTs b z).1] at e;cases e
        exact absurd rfl (d2 _)
    have nsK:∀ {b:Addr} {m:Str→Option Value},s₁.heap.Ns b m→(Ys s₁.heap H).Ns b m:=fun {b m} ⟨o,es,ep,e,d,r⟩=>⟨o,es,ep,base_of e (noA e (fun _ _ z=>by rw [d] at z;cases z) (fun _ z=>by rw [d] at z;cases z)),d,r⟩
    have hKb:K.In (Ys s₁.heap H):=fun b o e=>base_of (KX b o e) (by
      rcases hO b with z | ⟨rfl,hk,_⟩ | ⟨z,_⟩
      · exact z
      · rw [hk] at e;cases e
      · rw [(hTs b z).2.2] at e;cases e)
    have hBt:U4 mg (Ys s₁.heap H):=by
      obtain ⟨bm,o,b1,b2,b3,b4,b5,b6,b7⟩:=hbt
      exact ⟨bm,o,b1,b2,b3,base_of b4 (noA b4 (fun _ _ z=>by rw [b7] at z;cases z) (fun _ z=>by rw [b7] at z;cases z)),b5,b6,b7⟩
    have hM:Mod K mg (Ys s₁.heap H):=⟨hKb,nsK hns,⟨mb,nsK hb,hbb⟩,let ⟨mc,h1,h2⟩:=hlim;⟨mc,nsK h1,h2⟩⟩
    have e0:Env0 P w K mg (Ys s₁.heap H) callerA [] s₁ H:=⟨rfl,hM,fun b o e=>Vd e,Nat.le_of_eq (JS _ _),trivial,fun b hb=>absurd (show b ∈ ([]:List Addr) from hb) (by simp),hok,.of_eq hg⟩
    refine codeAny_mono ((F _ hKb (nsK hns) hBt).run callerA [] s₁ H ⟨[.ref a],[]⟩ [.ref a] [.ref a] _ _ hr e0 (hbind s₁ (.ref a)) (.cons rfl .nil) (hsp H hS hT)) fun r s' h=>?_
    cases r with
    | error e=>exact h.elim
    | ok fl =>
      cases fl with
      | next=>exact False.elim h
      | brk=>exact False.elim h
      | cont=>exact False.elim h
      | ret u =>
        obtain ⟨v,H',os,bare,un,hok',r',q⟩:=h
        have q':v=.bl true:=q
        subst q'
        obtain rfl:u=Value.bool true:=r'
        refine ⟨rfl,⟨fun b o e=>?_,fun b o e=>un.there b o e (by simp)⟩,os,bare⟩
        rcases hO b with z | ⟨rfl,_,ob,xs,z⟩ | ⟨zT,z⟩
        · exact .inl (un.keep b o e z (by intro z;exact absurd (show b ∈ ([]:List Addr) from z) (by simp)) (by simp))
        · have z2:=un.frzs b ob _ z
          obtain ⟨e1,_⟩:=hok b _ z
          obtain ⟨e2,_⟩:=hok' b _ z2
          rw [e] at e1;cases e1
          exact .inl e2
        · obtain ⟨more,z2⟩:=un.tbls b _ z
          have e2:s'.heap.get? b=some { cls:=.none,data:=.fields (#[] ++ more) }:=hok' b _ z2
          obtain ⟨t1,t2,_⟩:=hTs b zT
          rw [t1] at e;cases e
          exact .inr (.inl ⟨t2,rfl,#[],more,rfl,e2⟩)
  have haT:∀ T ∈ Ts,T≠a:=fun T hT z=>by
    have:=(hTs T hT).1
    rw [z,ha] at this;cases this
  cases hk:K.lookup a with
  | some o =>
    have e:=KX a o hk
    rw [ha] at e
    cases e
    refine core (fun b=>if b ∈ Ts then some (.tbl #[]) else none) (fun b=>?_) (.inr ⟨_,vs.toArray,_,hk,rfl,rfl,rfl,by rw [List.size_toArray,lenV];exact hl,by simpa using rv⟩) (fun T hT=>if_pos hT) (fun b u z=>?_)
    · by_cases hb:b ∈ Ts
      · exact .inr (.inr ⟨hb,if_pos hb⟩)
      · exact .inl (if_neg hb)
    · by_cases hb:b ∈ Ts
      · have z':=(if_pos hb).symm.trans z
        cases z'
        exact (hTs b hb).1
      · have z':=(if_neg hb).symm.trans z
        cases z'
  | none =>
    refine core (fun b=>if b=a then some (.frz { cls:=.type "list", data:=.seq vs.toArray } (.lst (ns.map V.int))) else if b ∈ Ts then some (.tbl #[]) else none) (fun b=>?_) (.inl (.inr ⟨{ cls:=.type "list", data:=.seq vs.toArray },if_pos rfl⟩)) (fun T hT=>(if_neg (haT T hT)).trans (if_pos hT)) (fun b u z=>?_)
    · by_cases hb:b=a
      · exact .inr (.inl ⟨hb,hk,_,_,if_pos hb⟩)
      · by_cases hbT:b ∈ Ts
        · exact .inr (.inr ⟨hbT,(if_neg hb).trans (if_pos hbT)⟩)
        · exact .inl ((if_neg hb).trans (if_neg hbT))
    · by_cases hb:b=a
      · have z':=(if_pos hb).symm.trans z
        cases z'
        subst hb
        exact ⟨ha,by rw [List.length_map];exact hl,vs,_,rv,ha⟩
      · have z1:=(if_neg hb).symm.trans z
        by_cases hbT:b ∈ Ts
        · have z':=(if_pos hbT).symm.trans z1
          cases z'
          exact (hTs b hbT).1
        · have z':=(if_neg hbT).symm.trans z1
          cases z'
structure TabAt (q:Program) (K:PySem.W.Frag) (x:Str) (c T:Addr):Prop where
  fnd:∃ d,(recsOf q).find? (fun e=>e.name == x)=some d
  tab:PySem.W.tabIn K x=some (c,T)
  hd:PySem.W.codeHdIn K c T=true
  no:K.lookup T=none
theorem walk_ofT {l:PySem.W.OpenLaw} {n k:Nat} {q:Program} {loose:List Str} {XP:(Str→Option Value)→Heap→Prop} {YP:World→Heap→Prop} {d:DefRec} {K:Params→PySem.W.Frag} {sp:World→Sp} {x:Str} {tabs:List (Str × Addr × Addr)}
    (hn:l.most=some n) (hn2:n≤sizeLine) (hdf:d.params.defaults=[]) (hr:Room k callerA)
    (hY:∀ (w:World) (h:Heap),YP w h→(K w.params).In h)
    (htab:∀ (w:World),∀ p ∈ tabs,TabAt q (K w.params) p.1 p.2.1 p.2.2)
    (F:∀ (w:World) (mg:Str→Option Value) (fa:Addr) (h:Heap),(K w.params).In h→h.Ns mainGlobals mg→mg d.name=some (.ref fa) →
      ∃ fd:FuncData,(∀ (s:Shared) (u:Value),BindsTo s fd ⟨[u],[]⟩ [(x,u)]) ∧
        ∀ base:Heap,(K w.params).In base→base.Ns mainGlobals mg→U4 mg base→FnOk l.prog w (K w.params) mg base CX0 k fa fd [x] (sp w))
    (hsp:∀ (w:World) (H:Hp) (a:Addr) (ns:List Int),ns.length≤n→SqL (K w.params) H a (ns.map V.int)→(∀ p ∈ tabs,H p.2.2=some (.tbl #[]))→sp w [.ref a] H (fun v _=>v=.bl true) fun _ _ _=>False) :
    PySem.W.WalkO q loose XP YP l.row.toRowW d [] (fun f vs=>PySem.call f vs):=by
  refine Att.attach_call hn hdf fun w s₀ s₁ mg mb fa o pm cd doc a vs ns G Y ho hd hcd hmg hobj hints hlen hg=>?_
  have KX:=hY w _ Y
  obtain ⟨fd,hb,hF⟩:=F w mg fa _ KX G.T.g hmg
  have hbt:U4 mg s₁.heap:=by
    obtain ⟨bm,ob,b1,b2,b3,b4,b5,b6⟩:=G.T.bmain
    have hbG:bm≠mainGlobals:=fun q=>by
      obtain ⟨o,es,ep,e,hd,_⟩:=G.T.g
      rw [q,e] at b3;cases b3;rw [hd] at b6;cases b6
    exact ⟨bm,ob,b1,b2,hbG,b3,b4,b5,b6⟩
  refine V1 (Ts:=tabs.map fun p=>p.2.2) KX G.T.g G.T.b G.T.builtins G.T.nolimit hg hbt (fun T hT=>?_) hobj hints (Nat.le_trans hlen hn2) hr hF hb (fun H hS hT=>hsp w H a ns hlen hS fun p hp=>hT _ (List.mem_map.mpr ⟨p,hp,rfl⟩))
  obtain ⟨p,hp,rfl⟩:=List.mem_map.mp hT
  obtain ⟨⟨dd,hrec⟩,ht,_,hno⟩:=htab w p hp
  obtain ⟨hc,h0⟩:=PySem.W.tab_of G.T KX hrec ht
  exact ⟨h0,(hc.tab h0).isCodeTable,hno⟩
end L2
namespace K22
open PySem L2 TM TT K9 K11
abbrev eM:Expr:=Lq (LR Yi) 3
abbrev eT:Expr:=Lq (LR Ym) 3
abbrev qM:Str:=(PyProof.Rows.envOfC "many_by" (defScope Yi) 0 0 .none).qual ++ "<lambda>"
abbrev qT:Str:=(PyProof.Rows.envOfC "tall_by" (defScope Ym) 0 0 .none).qual ++ "<lambda>"
def RN (_:Hp) (v:V) (a:Nat):Prop:=v=.int (a:Int)
theorem Vy {K:PySem.W.Frag}:Rep K RN:=fun _ _ _ _ _ h=>h
def opM (_:Lab) (_:Int) (xs:List Nat):Nat:=1 + xs.sum
def opT (_:Lab) (_:Int) (xs:List Nat):Nat:=1 + xs.foldl max 0
theorem XC {H:Hp}:∀ {ys:List V} {xs:List Nat},RAll RN H ys xs→ys=(xs.map fun a=>((a:Nat):Int)).map V.int
  | _,_,.nil=>rfl
  | _,_,.cons (v:=v) h t=>by
    have h':v=_:=h
    rw [h',XC t];rfl
theorem X3:∀ xs:List Nat,(xs.map fun a=>((a:Nat):Int)).sum=((xs.sum:Nat):Int)
  | []=>rfl
  | x :: r=>by
    have:=X3 r
    simp only [List.map_cons,List.sum_cons];omega
theorem Wf:∀ (xs:List Nat) (a:Nat),a≤xs.foldl max a∧(∀ x ∈ xs,x≤xs.foldl max a)∧(xs.foldl max a=a∨xs.foldl max a ∈ xs)
  | [],a=>⟨Nat.le_refl _,fun _ h=>(nomatch h),.inl rfl⟩
  | x :: r,a=>by
    obtain ⟨h1,h2,h3⟩:=Wf r (max a x)
    simp only [List.foldl_cons]
    refine ⟨by omega,fun y hy=>?_,?_⟩
    · rcases List.mem_cons.mp hy with rfl | hy
      · omega
      · exact h2 y hy
    · rcases h3 with h3 | h3
      · rw [h3]
        rcases Nat.le_total a x with z | z
        · rw [Nat.max_eq_right z];exact .inr List.mem_cons_self
        · rw [Nat.max_eq_left z];exact .inl rfl
      · exact .inr (List.mem_cons_of_mem _ h3)
section
variable {P:Program} {w:World} {K:PySem.W.Frag} {mg:Str→Option Value} {base:Heap} {f:Addr} {fd:FuncData}
theorem Rh:FnScope ["put", "mark", "parts"] ["put", "mark", "parts"] (Q4 eM):=⟨rfl,rfl,rfl,by decide +kernel,rfl,by decide +kernel,by decide +kernel⟩
theorem P8:FnScope ["put", "mark", "parts"] ["put", "mark", "parts"] (Q4 eT):=⟨rfl,rfl,rfl,by decide +kernel,rfl,by decide +kernel,by decide +kernel⟩
theorem Om {us:List Value} (h:us.length=3):∃ a b c,us=[a,b,c]:=by
  match us,h with
  | [a,b,c],_=>exact ⟨a,b,c,rfl⟩
theorem L8 (G:Gm mg):WL P w K mg base 2 eM (GW K RN opM):=by
  refine Xg Rh (fun vs H Q E h=>?_) (fun qual pm c ctv us h=>?_) (fun qual f c A outer s H vs Q E hr h=>?_)
  · obtain ⟨v,u,mk,lp,ys,xs,rfl,_⟩:=h
    rfl
  · obtain ⟨a,b,d,rfl⟩:=Om h
    rfl
  · obtain ⟨v,u,mk,lp,ys,xs,rfl,_,_,hl,hx,_,q⟩:=h
    refine ⟨_,Qm QG Qd (Qq (Gg rfl) rfl G.sum PyProof.Rows.boot_sum (Qa (pv 2) Qc)),?_⟩
    have e:=XC hx
    subst e
    refine ⟨_,rfl,lp,_,rfl,SqL.of hl,_,_,rfl,rfl,q _ H (Same.refl _) ?_⟩
    show V.int _=V.int _
    rw [X3]
    unfold opM
    congr 1
theorem Li (G:Gm mg):WL P w K mg base 2 eT (GW K RN opT):=by
  refine Xg P8 (fun vs H Q E h=>?_) (fun qual pm c ctv us h=>?_) (fun qual f c A outer s H vs Q E hr h=>?_)
  · obtain ⟨v,u,mk,lp,ys,xs,rfl,_⟩:=h
    rfl
  · obtain ⟨a,b,d,rfl⟩:=Om h
    rfl
  · obtain ⟨v,u,mk,lp,ys,xs,rfl,_,_,hl,hx,_,q⟩:=h
    refine ⟨_,Qm QG Qd (VR (VW rfl) rfl G.max PyProof.Rows.boot_max (Qa (pv 2) Qc) (Np Qd Op)),?_⟩
    have e:=XC hx
    subst e
    refine ⟨_,rfl,lp,_,_,rfl,rfl,SqL.of hl,fun hn=>?_,fun M hM hle=>?_⟩
    · have:xs=[]:=by simpa using hn
      subst this
      exact ⟨_,_,rfl,rfl,q _ H (Same.refl _) rfl⟩
    · refine ⟨_,_,rfl,rfl,q _ H (Same.refl _) ?_⟩
      show V.int _=V.int _
      unfold opT
      obtain ⟨h1,h2,h3⟩:=Wf xs 0
      obtain ⟨x,hx,rfl⟩:=List.mem_map.mp hM
      have a1:=h2 x hx
      have a2:xs.foldl max 0≤x:=by
        rcases h3 with h3 | h3
        · omega
        · have:=hle _ (List.mem_map.mpr ⟨_,h3,rfl⟩)
          omega
      congr 1
      omega
def Gv (K:PySem.W.Frag) (T0:Addr) (e:Expr) (qual:Str) (op:Lab→Int→List Nat→Nat):Sp:=fun vs H Q _=>∃ (tu wd lm:Addr) (sv:V) (mo:List MdT) (T:Tu) (v:V) (u:Tm) (rv:V) (t:Tree Str),vs=[.ref tu,v,rv]∧TurnAt K H tu wd lm sv mo T∧TurnOk mo T∧TBd T∧mo.length≤10∧TmV K H v u∧lv u≤8∧sz u≤100∧TrV K H rv t∧lv t≤40∧St T (u,upT t)∧TbS H T0 (ZG e) qual ∧
  ∀ H':Hp,SameX T0 H H'→TbS H' T0 (ZG e) qual→Q (.int ((valT op 0 T u (upT t):Nat):Int)) H'
theorem Mo.tb {K:PySem.W.Frag} {H H':Hp} {T0:Addr} {ps:Array Value} (h:H T0=some (.tbl ps)) (g:SameX T0 H H'):Mo K H H':=Mo.sx h (fun _ z=>nomatch z) (fun _ z=>nomatch z) (fun _ _ z=>nomatch z) (fun _ _ z=>nomatch z) g
theorem Ms:FnScope ["turning", "term", "tree"] ["turning", "term", "tree"] (defScope Yi):=⟨rfl,rfl,rfl,by decide +kernel,rfl,by decide +kernel,by decide +kernel⟩
theorem G5:FnScope ["turning", "term", "tree"] ["turning", "term", "tree"] (defScope Ym):=⟨rfl,rfl,rfl,by decide +kernel,rfl,by decide +kernel,by decide +kernel⟩
theorem VS {c T0:Addr} (F:Fun K "many_by" "many_by" Yi f fd) (hn:PySem.W.nsIn K mainGlobals "many_by" = some (some (.ref f))) (hT:PySem.W.tabIn K "many_by" = some (c,T0)) (hC:PySem.W.codeHdIn K c T0=true) (hB:U4 mg base) (RO:Fn P w K mg base 54 "outcome" ["turning", "term", "tree", "make"] (U8 K eM RN opM 0)):FnOk P w K mg base CX0 55 f fd ["turning", "term", "tree"] (Gv K T0 eM qM opM):=by
  refine Fun.okC F hn hT Ms (fun vs H Q E h=>?_) (fun A outer s H vs Q E hr h=>?_)
  · obtain ⟨tu,wd,lm,sv,mo,T,v,u,rv,t,rfl,_⟩:=h
    rfl
  obtain ⟨tu,wd,lm,sv,mo,T,v,u,rv,t,rfl,hTu,hO,hTB,hm10,hv,hlu,hsu,htr,hlt,hst,htb,q⟩:=h
  refine ⟨_,(Qi (Qp (Qr RO hr (Qa (pv 0) (Qa (pv 1) (Qa (pv 2) (Qa (Wz (c:=c) (T:=T0) rfl hC hB) Qc))))))),?_⟩
  obtain ⟨ps,hps⟩:=htb.at
  refine ⟨_,rfl,_,rfl,_,rfl,htb,fun fm H1 g1 _ hL htb1=>?_⟩
  have gm:Mo K H H1:=Mo.tb hps g1
  exact ⟨tu,wd,lm,sv,mo,T,v,u,rv,t,fm,rfl,gm.turn hTu,hO,hTB,hm10,hv.mono gm.t,hlu,hsu,htr.mono gm.t,hlt,hst,hL,fun v' H2 g2 hv'=>by
    have hv'':v'=.int ((valT opM 0 T u (upT t):Nat):Int):=hv'
    subst hv''
    exact q H2 (g1.trans (SameX.of g2)) (htb1.same g2)⟩
theorem Gq {c T0:Addr} (F:Fun K "tall_by" "tall_by" Ym f fd) (hn:PySem.W.nsIn K mainGlobals "tall_by" = some (some (.ref f))) (hT:PySem.W.tabIn K "tall_by" = some (c,T0)) (hC:PySem.W.codeHdIn K c T0=true) (hB:U4 mg base) (RO:Fn P w K mg base 54 "outcome" ["turning", "term", "tree", "make"] (U8 K eT RN opT 0)):FnOk P w K mg base CX0 55 f fd ["turning", "term", "tree"] (Gv K T0 eT qT opT):=by
  refine Fun.okC F hn hT G5 (fun vs H Q E h=>?_) (fun A outer s H vs Q E hr h=>?_)
  · obtain ⟨tu,wd,lm,sv,mo,T,v,u,rv,t,rfl,_⟩:=h
    rfl
  obtain ⟨tu,wd,lm,sv,mo,T,v,u,rv,t,rfl,hTu,hO,hTB,hm10,hv,hlu,hsu,htr,hlt,hst,htb,q⟩:=h
  refine ⟨_,(Qi (Qp (Qr RO hr (Qa (pv 0) (Qa (pv 1) (Qa (pv 2) (Qa (Wz (c:=c) (T:=T0) rfl hC hB) Qc))))))),?_⟩
  obtain ⟨ps,hps⟩:=htb.at
  refine ⟨_,rfl,_,rfl,_,rfl,htb,fun fm H1 g1 _ hL htb1=>?_⟩
  have gm:Mo K H H1:=Mo.tb hps g1
  exact ⟨tu,wd,lm,sv,mo,T,v,u,rv,t,fm,rfl,gm.turn hTu,hO,hTB,hm10,hv.mono gm.t,hlu,hsu,htr.mono gm.t,hlt,hst,hL,fun v' H2 g2 hv'=>by
    have hv'':v'=.int ((valT opT 0 T u (upT t):Nat):Int):=hv'
    subst hv''
    exact q H2 (g1.trans (SameX.of g2)) (htb1.same g2)⟩
end
end K22
namespace L2
open PySem PySem.Spec PyProof.Rows
theorem ObjOk.there {P:Program} {w:World} {H:Hp} {h:Heap} {a:Addr} {o:HO} (x:ObjOk P w H h a o):∃ ob,h.get? a=some ob:=by
  cases o with
  | lst xs=>obtain ⟨_,_,_,_,e⟩:=x;exact ⟨_,e⟩
  | tup xs=>obtain ⟨_,_,_,_,e,_⟩:=x;exact ⟨_,e⟩
  | dK kvs=>obtain ⟨_,_,_,_,o,_,_,e,_⟩:=x;exact ⟨_,e⟩
  | dT kvs=>obtain ⟨_,_,_,_,o,_,_,e,_⟩:=x;exact ⟨_,e⟩
  | set S n=>obtain ⟨o,_,_,_,e,_⟩:=x;exact ⟨_,e⟩
  | ins C dx fs=>obtain ⟨_,_,_,e,_⟩:=x;exact ⟨_,e⟩
  | own y=>obtain ⟨_,e⟩:=x;exact ⟨_,e⟩
  | xd fs=>obtain ⟨_,⟨_,_,_,e,_⟩,_⟩:=x;exact ⟨_,e⟩
  | rng lo hi=>obtain ⟨_,_,_,e⟩:=x;exact ⟨_,e⟩
  | frz ob u=>obtain ⟨e,_⟩:=x;exact ⟨_,e⟩
  | tbl ps=>exact ⟨_,(show h.get? a=some _ from x)⟩
  | met f y=>exact ⟨_,(show h.get? a=some _ from x)⟩
  | ext φ=>obtain ⟨_,e,_⟩:=x;exact e
def Cov (B:Heap) (fs:List Addr) (H':Hp) (h h1:Heap):Prop:=∀ b o,h1.get? b=some o→(H' b≠none∨∃ o',h.get? b=some o')→b ∉ fs→B.get? b=some o
structure Flw (P:Program) (w:World) (outer:List Env) (H:Hp) (s:Shared) (a:Addr) (cls:Value) (H':Hp) (s':Shared):Prop where
  os:s'.os=s.os
  bare:AllBare s'.gens
  un:Un (frs outer) [] H H' s.heap s'.heap
  hok:HOk P w H' s'.heap
  fly:∃ B t,Heap.FlyingW B outer a cls (.ref t) s'.heap∧Cov B (frs outer) H' s.heap s'.heap
def CX1 (P:Program) (w:World):CXT:=fun outer H s E e s'=>∃ (a:Addr) (cls:Value) (H':Hp),e=.ref a∧Flw P w outer H s a cls H' s'∧E cls none H'
theorem N5 {fs:List Addr} {H H':Hp} {h h1 h2 B:Heap} (u:Un fs [] H H' h h1) (cov:Cov B fs H' h h1) (st:B.StaysIn h2) (up:h1.UpToSlots h2) (hfs:∀ b ∈ fs,∀ o,h1.get? b=some o→∀ vs,o.data≠.fields vs):Un fs [] H H' h h2 where
  keep:=fun b o e n hb hx=>st _ _ (cov b o (u.keep b o e n hb hx) (.inr ⟨o,e⟩) hb)
  slot:=fun b o e n hb hx=>by
    obtain ⟨sl,e1⟩:=u.slot b o e n hb hx
    obtain ⟨sl2,e2⟩:=up b _ e1 (hfs b hb _ e1)
    exact ⟨sl2,e2⟩
  free:=u.free
  there:=fun b o e hx=>by
    obtain ⟨o1,e1⟩:=u.there b o e hx
    by_cases hb:b ∈ fs
    · obtain ⟨sl2,e2⟩:=up b _ e1 (hfs b hb _ e1)
      exact ⟨_,e2⟩
    · exact ⟨o1,st _ _ (cov b o1 e1 (.inr ⟨o,e⟩) hb)⟩
  tups:=u.tups
  frzs:=u.frzs
  tbls:=u.tbls
theorem MJ {P:Program} {w:World} {fs:List Addr} {H':Hp} {h h1 h2 B:Heap} (hok:HOk P w H' h1) (trk:∀ b ∈ fs,H' b=none) (cov:Cov B fs H' h h1) (st:B.StaysIn h2):HOk P w H' h2:=fun b u e=>by
  refine (hok b u e).stay (fun c v hc r=>?_) (fun _ r=>r) fun _ _ r=>r
  have hne:H' c≠none:=by
    rcases hc with rfl | hc
    · rw [e];intro z;cases z
    · rw [hc];intro z;cases z
  exact st _ _ (cov c v r (.inl hne) fun z=>hne (trk c z))
section
variable {X:Cx} {pins:List (Addr × Obj)} {σ:St} {H H':Hp} {s s':Shared}
theorem La {B:Heap} {l:List Env} {h:Heap} (hl:h.FunFrames B l):∀ b ∈ frs l,∀ o,h.get? b=some o→∀ vs,o.data≠.fields vs:=fun b hb o e vs=>by
  obtain ⟨_,o',e',d⟩:=hl.mem hb
  rw [e] at e'
  cases e'
  exact d vs
theorem VD (I:Inv X pins σ H s) (u:Un (frs X.stack) [] H H' s.heap s'.heap):∀ b ∈ frs X.stack,H' b=none:=fun b hb=>by
  obtain ⟨_,o,ho,_⟩:=I.stack.mem hb
  exact u.free b o ho (I.stkFree b hb) (by simp)
theorem Inv.flown {h2 B:Heap} (I:Inv X pins σ H s) (os:s'.os=s.os) (bare:AllBare s'.gens) (un:Un (frs X.stack) [] H H' s.heap s'.heap) (hok:HOk X.prog X.w H' s'.heap) (hfr:s'.heap.FunFrames B X.stack) (cov:Cov B (frs X.stack) H' s.heap s'.heap) (st:B.StaysIn h2) (up:s'.heap.UpToSlots h2) :
    Inv X pins σ H' { s' with heap:=h2 } :=
  I.call' (s':={ s' with heap:=h2 }) (ch:=[]) os (N5 un cov st up (La hfr)) (MJ hok (VD I un) cov st) bare (fun b z=>absurd z (by simp))
theorem Cov.out {B h2:Heap} {H0:Hp} {s0:Shared} (I:Inv X pins σ H s) (hH0:X.H₀=H0) (hs0:X.s₀=s0) (hex:X.ex=[]) (un:Un (frs X.stack) [] H H' s.heap s'.heap) (hok:HOk X.prog X.w H' s'.heap) (cov:Cov B (frs X.stack) H' s.heap s'.heap) (st:B.StaysIn h2):Cov B X.fs H' s0.heap h2:=fun b o e hb nb=>by
  have key:∃ o',s'.heap.get? b=some o'∧b ∉ frs X.stack∧(H' b≠none∨∃ o',s.heap.get? b=some o'):=by
    rcases hb with hb | ⟨o',hb⟩
    · cases hH:H' b with
      | none=>exact absurd hH hb
      | some u =>
        obtain ⟨o',ho'⟩:=(hok b u hH).there
        refine ⟨o',ho',fun z=>?_,.inl (by intro z;cases z)⟩
        rw [VD I un b z] at hH
        cases hH
    · have h1:X.s₀.heap.get? b=some o':=by rw [hs0];exact hb
      obtain ⟨o1,e1⟩:=I.base.there b o' h1 (by rw [hex];simp)
      obtain ⟨o2,e2⟩:=un.there b o1 e1 (by simp)
      refine ⟨o2,e2,fun z=>?_,.inr ⟨o1,e1⟩⟩
      rcases List.mem_cons.mp (I.stkSub b z) with z | z
      · rw [z] at h1
        exact absurd (Nat.lt_of_lt_of_le (Heap.lt_size h1) I.ok.above) (Nat.lt_irrefl _)
      · exact nb z
  obtain ⟨o',h1,h2',h3⟩:=key
  have hB:=cov b o' h1 h3 h2'
  have:=st _ _ hB
  rw [e] at this
  cases this
  exact hB
end
section
variable {P:Program} {w:World} {K:PySem.W.Frag} {mg:Str→Option Value} {base:Heap} {N:List Str} {qual:Str} {scope:Scope} {f:Addr} {cd:Value} {A:Around} {outer:List Env} {s:Shared} {H:Hp} {E:XK}
theorem Pw {E':XK} (k:∀ cls H',E' cls none H'→E cls none H'):Xa (CX1 P w) (ZZ (CX1 P w) P w K mg base N qual scope f cd A outer s H E) E':=by
  intro pins σ H1 s1 e s' I h
  obtain ⟨a,cls,H',rfl,F,q⟩:=h
  obtain ⟨B,t,hfl,cov⟩:=F.fly
  show wpAny (model P w) (A.deeper (envOfC qual scope s.heap.objs.size f cd)) (leaving (envOfC qual scope s.heap.objs.size f cd) (.ref a)) _ _ s'
  refine wpAny_leaves_onW I.ok.frames rfl hfl fun h2 hfl2 up=>?_
  have J:=I.flown F.os F.bare F.un F.hok hfl.2.2.1 cov hfl2.1 up
  exact ⟨a,cls,H',rfl,⟨J.os,J.bare,J.base,J.hok,B,t,hfl2,Cov.out I rfl rfl rfl F.un F.hok cov hfl2.1⟩,k _ _ q⟩
theorem Os {pins:List (Addr × Obj)} {σ:St} {H1:Hp} {s1:Shared} {a:Addr} {cls:Value} {args:List Value} {h':Heap} (I:Inv (ZZ (CX1 P w) P w K mg base N qual scope f cd A outer s H E) pins σ H1 s1) (hx:Heap.MadeExcOf s1.heap h' a cls args) (q:E cls none H1) :
    (ZZ (CX1 P w) P w K mg base N qual scope f cd A outer s H E).xe (.ref a) { s1 with heap:=h' }:=by
  show wpAny (model P w) (A.deeper (envOfC qual scope s.heap.objs.size f cd)) (leaving (envOfC qual scope s.heap.objs.size f cd) (.ref a)) _ _ _
  obtain ⟨stk,hstk⟩ : ∃ stk,stk=envOfC qual scope s.heap.objs.size f cd :: outer:=⟨_,rfl⟩
  have hfr:s1.heap.FunFrames (PySem.W.hideAll s1.heap (frs stk)) stk:=by
    have:=I.stack
    rw [hstk]
    exact PySem.W.funFrames_hide this fun env he b hb=>List.mem_filterMap.mpr ⟨env,he,hb⟩
  have cov:Cov (PySem.W.hideAll s1.heap (frs stk)) (frs stk) H1 s1.heap s1.heap:=fun b o e _ nb=>PySem.W.hideAll_get _ e nb
  refine wpAny_leaves_madeW (base:=PySem.W.hideAll s1.heap (frs stk)) (h:=s1.heap) I.ok.frames rfl (fun b o q=>PySem.W.of_hideAll _ q) (hstk ▸ hfr) hx fun h2 t hfl2 tup hbt up=>?_
  subst hstk
  have up':s1.heap.UpToSlots h2:=(Heap.UpToSlots.of_keeps hx.keeps).trans up
  have J:=I.flown (s':=s1) rfl I.bare Un.refl I.hok hfr cov hfl2.1 up'
  exact ⟨a,cls,H1,rfl,⟨J.os,J.bare,J.base,J.hok,_,t,hfl2,Cov.out (s':=s1) I rfl rfl rfl Un.refl I.hok cov hfl2.1⟩,q⟩
end
end L2
namespace L2
open PySem PySem.Spec PyProof.Rows
abbrev Wl:List Value:=[.type "ValueError", .type "Exception", .type "BaseException", .type "object"]
theorem M4 {K:PySem.W.Frag} {h:Heap} {C:Addr} {bmB:List Value} {newId:String} (X:K.In h) (q:PySem.W.excIn K C bmB newId=true) :
    ∃ tl N nm qn bs hdct sn sub ab col dd k0 k1 k2 k3 k5 mN,h.get? C=some (excClassObj nm qn C N bs tl hdct sn sub ab col dd k0 k1 k2 k3 k5 newId)∧h.Ns N mN∧mN "__init__" = none∧OwnTail h bmB tl:=by
  unfold PySem.W.excIn at q
  split at q
  · rename_i dd cd sl ho
    split at q
    · rename_i C' bm k0 k1 k2 k3 n k5 hm hs
      simp only [Bool.and_eq_true,beq_iff_eq,Bool.not_eq_true'] at q
      obtain ⟨⟨⟨⟨⟨e1,e2⟩,hdel⟩,ht⟩,hok⟩,hni⟩:=q
      subst e1 e2
      obtain ⟨nm,bs,mro,ns,qn,hd,sn,sub,ab,col,del⟩:=cd
      dsimp only at hm hdel hok hni
      subst hm hdel
      have hsl:sl=#[k0,k1,k2,k3,some (.builtin n),k5]:=by
        obtain ⟨l⟩:=sl
        exact congrArg Array.mk hs
      subst hsl
      exact ⟨bm,ns,nm,qn,bs,hd,sn,sub,ab,col,dd,k0,k1,k2,k3,k5,_,X _ _ ho,.of_isNs (PySem.W.isNs_of_in X hok),PySem.W.nsMap_none_of_in X hok hni,PySem.W.tail_of_in X ht⟩
    · cases q
  · cases q
def OL (C:Addr) (E:XK) (t:TA):TS:=fun D σ H=>t σ H fun vs H1=>vs.length≤sizeLine∧E (.ref C) none H1
section
variable {P:Program} {w:World} {K:PySem.W.Frag} {mg:Str→Option Value} {base:Heap} {N:List Str} {qual:Str} {scope:Scope} {f:Addr} {cd:Value} {A:Around} {outer:List Env} {s:Shared} {H:Hp} {E:XK}
theorem US {x:Str} {C:Addr} {newId Bn inN:String} {bmN:List Value} {e:Expr} {es:List Expr} {t:TA} {np cpos pos:Pos} (hm:mg x=some (.ref C)) (hq:PySem.W.excIn K C Wl newId=true) (Fn:ExcBaseFacts Bn newId inN bmN) (hBn:Wl.contains (.type Bn)=true)
    (ha:PA (ZZ (CX1 P w) P w K mg base N qual scope f cd A outer s H E) (e :: es) t) (hg:Gl (ZZ (CX1 P w) P w K mg base N qual scope f cd A outer s H E) x:=by rfl) (hd:(x == ("__debug__" : Str))=false:=by decide)
    (he:starEach (e :: es) (envOfC qual scope s.heap.objs.size f cd)=(false,eval e (envOfC qual scope s.heap.objs.size f cd)) :: starEach es (envOfC qual scope s.heap.objs.size f cd):=by rfl) (hpl:(backTo cpos (starEach es (envOfC qual scope s.heap.objs.size f cd))).any (·.1)=false:=by rfl) :
    PS (ZZ (CX1 P w) P w K mg base N qual scope f cd A outer s H E) (.Raise (some (.Call (.Name x np) (e :: es) [] cpos)) none pos) (OL C E t):=by
  intro pins s1 σ H1 D I h
  obtain ⟨tl,N',nm,qn,bs,hdct,sn,sub,ab,col,dd,k0,k1,k2,k3,k5,mN,hC,hN,hni,T⟩:=M4 (h:=base) I.ok.mod.kin hq
  refine wpAny_Raise_call_subU (C:=C) (nm:=nm) (q:=qn) (N:=N') (bs:=bs) (bm:=tl) (hdct:=hdct) (sn:=sn) (sub:=sub) (ab:=ab) (col:=col) (dd:=dd) (k0:=k0) (k1:=k1) (k2:=k2) (k3:=k3) (k5:=k5)
    Fn hBn PySem.F.excBase_ValueError (mN:=mN) (T.hasType PySem.F.excBase_ValueError.hasBase) (I.ok.hd rfl) ?_ hni (YN I hg hm ⟨rfl,?_⟩ hd)
  · show (backTo cpos (starEach (e :: es) (envOfC qual scope s.heap.objs.size f cd))).any (·.1)=false
    rw [he]
    show (false || (backTo cpos (starEach es (envOfC qual scope s.heap.objs.size f cd))).any (·.1))=false
    rw [hpl];rfl
  · have hw:=ha cpos pins s1 σ H1 _ I h
    show wpAny (model P w) (A.deeper (envOfC qual scope s.heap.objs.size f cd)) (evalArgs (.ref C) true (backTo cpos (starEach (e :: es) (envOfC qual scope s.heap.objs.size f cd))) []) _ _ s1
    have hw':wpAny (model P w) (A.deeper (envOfC qual scope s.heap.objs.size f cd)) (spliced (backTo cpos (starEach (e :: es) (envOfC qual scope s.heap.objs.size f cd)))) _ _ s1:=hw
    rw [he] at hw' ⊢
    refine Calls.evalArgs_plain (wpAny_mono hw' (fun us s2 h2=>?_) fun _ _ y=>y)
    obtain ⟨vs,H2,I2,r,hl,q⟩:=h2
    exact ⟨rfl,by rw [← r.length];exact hl,I2.bk _ _ hC,hN.keeps I2.bk,T.keeps I2.bk,fun h' a hx=>Os I2 hx q⟩
end
end L2
namespace L2
open PySem PySem.Spec PyProof.Rows
structure FnX (P:Program) (w:World) (K:PySem.W.Frag) (mg:Str→Option Value) (base:Heap) (k:Nat) (x:Str) (ps:List Str) (sp:Sp):Prop where
  ex:∃ (f:Addr) (fd:FuncData),FnOk P w K mg base (CX1 P w) k f fd ps sp∧Binds K fd ps []∧PySem.W.keepIn K (.ref f)=true∧mg x=some (.ref f)
def LX (X:Cx) (EE:St→XK):Prop:=∀ (pins:List (Addr × Obj)) (σ:St) (H:Hp) (s:Shared) (e:Value) (s':Shared),Inv X pins σ H s→CX1 X.prog X.w X.stack H s (EE σ) e s'→X.xe e s'
def N0 (sp:Sp) (EE:St→XK) (t:TA):TE:=fun σ H Q=>t σ H fun vs H1=>sp vs H1 Q (EE σ)
section
variable {X:Cx}
theorem Yr {k k':Nat} {x:Str} {ps:List Str} {sp:Sp} {EE:St→XK} {p pos:Pos} {e:Expr} {es:List Expr} {t:TA} (F:FnX X.prog X.w X.K X.mg X.base k x ps sp) (hr:Room k' X.A) (hx:LX X EE) (ha:PA X (e :: es) t) (hk:k≤k':=by decide) (hg:Gl X x:=by rfl)
    (hdb:(x == ("__debug__" : Str))=false:=by decide) (he:starEach (e :: es) X.env=(false,eval e X.env) :: starEach es X.env:=by rfl) (hpl:(backTo pos (starEach es X.env)).any (·.1)=false:=by rfl) :
    PE X (.Call (.Name x p) (e :: es) [] pos) (N0 sp EE t):=by
  obtain ⟨f,fd,h1,h2,h3,h4⟩:=F.ex
  intro pins s σ H Q I h
  refine wpAny_Call_Name_kw (YN I hg h4 ?_ hdb)
  refine PySem.W.callWith_K (h₀:=X.base) I.ok.mod.kin h3 (thn (ha pos pins s σ H _ I h) fun us s1 ⟨vs,H1,I1,r,q⟩=>⟨I1.kIn,?_⟩) he hpl
  have hl:us.length=ps.length:=by rw [← r.length];exact h1.len _ _ _ _ q
  have hb:=h2 s1 us I1.kIn (by rw [List.append_nil];exact hl)
  rw [List.append_nil] at hb
  refine wpAny_call (codeAny_mono (h1.run X.A X.stack s1 H1 ⟨us,[]⟩ us vs Q (EE σ) (hr.mono hk) I1.env0 hb r q) fun r s' hq=>?_)
  cases r with
  | error e=>exact hx pins σ H1 s1 e s' I1 hq
  | ok fl =>
    cases fl with
    | ret u=>exact I1.after hq
    | next=>exact False.elim hq
    | brk=>exact False.elim hq
    | cont=>exact False.elim hq
end
section
variable {P:Program} {w:World} {K:PySem.W.Frag} {mg:Str→Option Value} {base:Heap} {N:List Str} {qual:Str} {scope:Scope} {f:Addr} {cd:Value} {A:Around} {outer:List Env} {s:Shared} {H:Hp} {E:XK}
theorem XI {E':XK} (k:∀ cls H',E' cls none H'→E cls none H'):LX (ZZ (CX1 P w) P w K mg base N qual scope f cd A outer s H E) (fun _=>E'):=fun pins σ H1 s1 e s' I h=>Pw k pins σ H1 s1 e s' I h
theorem Fun.okX {x:Str} {st:Stmt} {fd:FuncData} {ps:List Str} {k:Nat} {sp:Sp} (F:Fun K x qual st f fd) (S:FnScope N ps (defScope st)) (len:∀ vs H Q E,sp vs H Q E→vs.length=ps.length)
    (hbody:∀ (cdv:Value) (A:Around) (outer:List Env) (s:Shared) (H:Hp) (vs:List V) (Q:VK) (E:XK),Room k (A.deeper (envOfC qual (defScope st) s.heap.objs.size f cdv))→sp vs H Q E →
      ∃ t,PSs (ZZ (CX1 P w) P w K mg base N qual (defScope st) f cdv A outer s H E) (defBody st) t∧t { nx:=fun _ H'=>Q .non H',rt:=Q } (start N vs) H):FnOk P w K mg base (CX1 P w) (k + 1) f fd ps sp:=by
  obtain ⟨oc,od,kV,doc,pm,an,cdv,ct,osl,rfl,lk,hcd⟩:=F.ex
  exact Vm lk hcd S len fun A outer s H vs Q E hr hsp=>hbody cdv A outer s H vs Q E hr hsp
theorem Fun.okXC {x:Str} {st:Stmt} {fd:FuncData} {ps:List Str} {k:Nat} {sp:Sp} {c T:Addr} (F:Fun K x qual st f fd) (hn:PySem.W.nsIn K mainGlobals x=some (some (.ref f))) (hT:PySem.W.tabIn K x=some (c,T)) (S:FnScope N ps (defScope st)) (len:∀ vs H Q E,sp vs H Q E→vs.length=ps.length)
    (hbody:∀ (A:Around) (outer:List Env) (s:Shared) (H:Hp) (vs:List V) (Q:VK) (E:XK),Room k (A.deeper (envOfC qual (defScope st) s.heap.objs.size f (.ref c)))→sp vs H Q E →
      ∃ t,PSs (ZZ (CX1 P w) P w K mg base N qual (defScope st) f (.ref c) A outer s H E) (defBody st) t∧t { nx:=fun _ H'=>Q .non H',rt:=Q } (start N vs) H):FnOk P w K mg base (CX1 P w) (k + 1) f fd ps sp:=by
  obtain ⟨oc,od,kV,doc,pm,an,cdv,ct,osl,rfl,lk,hcd⟩:=F.ex
  have e:cdv=.ref c:=Vw hn lk hT
  subst e
  exact Vm lk hcd S len fun A outer s H vs Q E hr hsp=>hbody A outer s H vs Q E hr hsp
end
abbrev Cx.pnd (X:Cx) (pins:List (Addr × Obj)):Cx:={ X with pn:=X.pn ++ pins }
abbrev Cx.tryx (X:Cx) (pins:List (Addr × Obj)) (EE:St→XK):Cx:={ X with pn:=X.pn ++ pins,xe:=fun e s'=>∃ pins' σ H s,Inv (X.pnd pins) pins' σ H s∧CX1 X.prog X.w X.stack H s (EE σ) e s' }
abbrev Cx.mrk (X:Cx) (a:Addr):Cx:={ X with A:=X.A.mark (some (.ref a)),calm:=false,xe:=fun _ _=>False }
section
variable {X:Cx} {pins:List (Addr × Obj)} {σ:St} {H:Hp} {s:Shared} {EE:St→XK} {a:Addr}
theorem Inv.toTry (I:Inv X pins σ H s) (EE:St→XK):Inv (X.tryx pins EE) [] σ H s :=
  ⟨⟨I.ok.mod,I.ok.kind,I.ok.glob,I.ok.blt,I.ok.above,I.ok.inj,I.ok.has,I.ok.cab,I.ok.hd,I.ok.frames,I.ok.stk,I.ok.exf,I.ok.bs,I.ok.bsz,I.ok.noex,I.ok.exfs,I.ok.funs,I.ok.frf⟩,I.os,I.bare,I.base,I.loc,I.cell,I.free,I.freeC,fun p hp=>I.pin p (by simpa using hp),I.hok,I.len⟩
theorem Inv.ofTry {p2:List (Addr × Obj)} (I:Inv (X.tryx pins EE) p2 σ H s):Inv X pins σ H s :=
  ⟨⟨I.ok.mod,I.ok.kind,I.ok.glob,I.ok.blt,I.ok.above,I.ok.inj,I.ok.has,I.ok.cab,I.ok.hd,I.ok.frames,I.ok.stk,I.ok.exf,I.ok.bs,I.ok.bsz,I.ok.noex,I.ok.exfs,I.ok.funs,I.ok.frf⟩,I.os,I.bare,I.base,I.loc,I.cell,I.free,I.freeC,fun p hp=>I.pin p (List.mem_append_left _ hp),I.hok,I.len⟩
theorem Inv.ofTryP {p2:List (Addr × Obj)} (I:Inv (X.tryx pins EE) p2 σ H s):Inv (X.pnd pins) p2 σ H s :=
  ⟨⟨I.ok.mod,I.ok.kind,I.ok.glob,I.ok.blt,I.ok.above,I.ok.inj,I.ok.has,I.ok.cab,I.ok.hd,I.ok.frames,I.ok.stk,I.ok.exf,I.ok.bs,I.ok.bsz,I.ok.noex,I.ok.exfs,I.ok.funs,I.ok.frf⟩,I.os,I.bare,I.base,I.loc,I.cell,I.free,I.freeC,I.pin,I.hok,I.len⟩
theorem Inv.ofPnd {p2:List (Addr × Obj)} (I:Inv (X.pnd pins) p2 σ H s):Inv X pins σ H s :=
  ⟨⟨I.ok.mod,I.ok.kind,I.ok.glob,I.ok.blt,I.ok.above,I.ok.inj,I.ok.has,I.ok.cab,I.ok.hd,I.ok.frames,I.ok.stk,I.ok.exf,I.ok.bs,I.ok.bsz,I.ok.noex,I.ok.exfs,I.ok.funs,I.ok.frf⟩,I.os,I.bare,I.base,I.loc,I.cell,I.free,I.freeC,fun p hp=>I.pin p (List.mem_append_left _ hp),I.hok,I.len⟩
theorem Inv.toMrk (I:Inv X pins σ H s) (a:Addr) (hf:(X.A.mark (some (.ref a))).frames=X.A.frames):Inv (X.mrk a) pins σ H s :=
  ⟨⟨I.ok.mod,I.ok.kind,I.ok.glob,I.ok.blt,I.ok.above,I.ok.inj,I.ok.has,I.ok.cab,fun z=>(nomatch z),hf.trans I.ok.frames,I.ok.stk,I.ok.exf,I.ok.bs,I.ok.bsz,I.ok.noex,I.ok.exfs,I.ok.funs,I.ok.frf⟩,I.os,I.bare,I.base,I.loc,I.cell,I.free,I.freeC,I.pin,I.hok,I.len⟩
theorem Inv.ofMrk (ok:X.Ok) (I:Inv (X.mrk a) pins σ H s):Inv X pins σ H s:=⟨ok,I.os,I.bare,I.base,I.loc,I.cell,I.free,I.freeC,I.pin,I.hok,I.len⟩
theorem SP.ofTry {D:Ends} {fl:Flow} {s':Shared} (h:SP (X.tryx pins EE) [] D fl s'):SP X pins D fl s':=by
  cases fl with
  | next=>obtain ⟨σ',H',I,q⟩:=h;exact ⟨σ',H',I.ofTry,q⟩
  | brk=>obtain ⟨σ',H',I,q⟩:=h;exact ⟨σ',H',I.ofTry,q⟩
  | cont=>obtain ⟨σ',H',I,q⟩:=h;exact ⟨σ',H',I.ofTry,q⟩
  | ret u=>obtain ⟨v,σ',H',I,r,q⟩:=h;exact ⟨v,σ',H',I.ofTry,r,q⟩
theorem SP.ofMrk {D:Ends} {fl:Flow} {s':Shared} (ok:X.Ok) (h:SP (X.mrk a) pins D fl s'):SP X pins D fl s':=by
  cases fl with
  | next=>obtain ⟨σ',H',I,q⟩:=h;exact ⟨σ',H',I.ofMrk ok,q⟩
  | brk=>obtain ⟨σ',H',I,q⟩:=h;exact ⟨σ',H',I.ofMrk ok,q⟩
  | cont=>obtain ⟨σ',H',I,q⟩:=h;exact ⟨σ',H',I.ofMrk ok,q⟩
  | ret u=>obtain ⟨v,σ',H',I,r,q⟩:=h;exact ⟨v,σ',H',I.ofMrk ok,r,q⟩
theorem NX:LX (X.tryx pins EE) EE:=fun p2 σ H s e s' I h=>⟨p2,σ,H,s,I.ofTryP,h⟩
def PV (C:Addr) (tb:(St→XK)→TS) (ts:TS):TS:=fun D σ H=>∃ EE:St→XK,tb EE D σ H∧∀ σ' cls H',EE σ' cls none H'→cls=.ref C∧ts D σ' H'
theorem OA {x:Str} {C:Addr} {body suite:List Stmt} {b₀:Stmt} {tb:(St→XK)→TS} {ts:TS} {np hpos pos:Pos} (hm:X.mg x=some (.ref C)) (hq:PySem.W.ktsIn X.K C "BaseException" = true) (hstk:X.stack=X.env :: X.outer)
    (hb:∀ pins EE,PSs (X.tryx pins EE) body (tb EE)) (hs:∀ a,PSs (X.mrk a) (b₀ :: suite) ts) (hg:Gl X x:=by rfl) (hfr:X.env.frame=some X.env.locals:=by rfl) (hd:(x == ("__debug__" : Str))=false:=by decide) :
    PS X (.Try body [.ExceptHandler (some (.Name x np)) none (b₀ :: suite) hpos] [] [] pos) (PV C tb ts):=by
  intro pins s σ H D I h
  obtain ⟨EE,h1,h2⟩:=h
  refine wpAny_Try_except (wpAny_mono (hb pins EE [] s σ H D (I.toTry EE) h1) (fun fl s1 q=>?_) fun e s1 q=>?_)
  · have q':=SP.ofTry q
    cases fl with
    | next=>exact wpAny_execs_nil q'
    | brk=>exact q'
    | cont=>exact q'
    | ret u=>exact q'
  · obtain ⟨p2,σ1,H1,s0,I1,a,cls,H',rfl,F,q⟩:=q
    obtain ⟨rfl,hts⟩:=h2 _ _ _ q
    obtain ⟨B,t,hfl,cov⟩:=F.fly
    rw [hstk] at hfl
    refine wpAny_looks_onW (by rw [← hstk];exact I.ok.frames) hfr hfl fun h4 hheld up4=>?_
    refine wpAny_landsW hheld fun h5 hfl5 up5'=>?_
    have up5:=up4.trans up5'
    have hfr1:s1.heap.FunFrames B (X.pnd pins).stack:=by show s1.heap.FunFrames B X.stack;rw [hstk];exact hfl.2.2.1
    have J5:=I1.flown F.os F.bare F.un F.hok hfr1 cov hfl5.1 up5
    have K5:Inv X pins σ1 H' { s1 with heap:=h5 }:=J5.ofPnd
    obtain ⟨nm,q',N',bs,bm,hdct,sn,sub,ab,col,dd,k0,k1,k2,k3,k5,newId,hC,hbase,hbT⟩:=PySem.W.kts_cls K5.kIn hq
    obtain ⟨ob,hob,hobc⟩:=hfl5.there
    have hmk:(X.A.mark (some (.ref a))).frames=X.A.frames:=rfl
    refine wpAny_handleBy_cons (codeAny_handlers_test (YN (X:=X.mrk a) (K5.toMrk a hmk) hg hm ?_ hd)) (by intro q;cases q)
    refine wpAny_excMatches_sub_self hC hob hobc hbase (codeAny_handlers_suite ?_)
    refine lands_againW hfl5 fun h6 hfl6 up6=>?_
    have J6:=I1.flown F.os F.bare F.un F.hok hfr1 cov hfl6.1 (up5.trans up6)
    have K6:Inv X pins σ1 H' { s1 with heap:=h6 }:=J6.ofPnd
    exact wpAny_mono (hs a pins _ σ1 H' D (K6.toMrk a hmk) hts) (fun fl s2 q=>SP.ofMrk K6.ok q) fun _ _ z=>z.elim
end
end L2
namespace L2
open PySem PySem.Spec PyProof.Rows
def Ph (te:TE):TE:=fun σ H Q=>te σ H fun v H1=>∃ i:Int,v=.int i∧i.natAbs.log2 < 1920∧Q (.str (toString i)) H1
def Pu (te:TE):TE:=fun σ H Q=>te σ H fun v H1=>∃ x:Str,v=.str x∧(reprText x).length≤sizeLine∧Q (.str (reprText x)) H1
def N1 (t1 t2 t3:TE):TE:=fun σ H Q=>t1 σ H fun v1 H1=>∃ a:Str,v1=.str a∧a.length≤1000∧t2 σ H1 fun v2 H2=>∃ b:Str,v2=.str b∧b.length≤1000∧t3 σ H2 fun v3 H3=>∃ c:Str,v3=.str c∧c.length≤1000∧Q (.str (Str.empty ++ a ++ b ++ c)) H3
def N2 (t1 t2:TE):TE:=fun σ H Q=>t1 σ H fun v1 H1=>∃ a:Str,v1=.str a∧a.length≤1000∧t2 σ H1 fun v2 H2=>∃ b:Str,v2=.str b∧b.length≤1000∧Q (.str (Str.empty ++ a ++ b)) H2
section
variable {X:Cx} {e e1 e2 e3:Expr} {te t1 t2 t3:TE} {pos:Pos}
theorem Vp (he:PE X e te):PE X (.FormattedValue e (-1) none pos) (Ph te):=by
  intro pins s σ H Q I h
  refine PySem.wpAny_FormattedValue_plain (thn (he pins s σ H _ I h) fun u s1 ⟨x,H1,I1,r,i,ex,hd,q⟩=>?_)
  subst ex
  obtain ⟨t,rfl⟩:=r
  exact wpAny_formatField_int hd ⟨.str (toString i),H1,I1.tok _,⟨_,rfl⟩,q⟩
theorem Nz (he:PE X e te):PE X (.FormattedValue e 114 none pos) (Pu te):=by
  intro pins s σ H Q I h
  refine PySem.wpAny_FormattedValue_repr (thn (he pins s σ H _ I h) fun u s1 ⟨x,H1,I1,r,y,ex,hd,q⟩=>?_)
  subst ex
  obtain ⟨t,rfl⟩:=r
  refine wpAny_pyReprObj_gives (T:="str") (typeIs_str _ _ _) PySem.F.slot_str_repr PySem.F.entry_str_repr (PySem.F.args_str_repr_1 _) (gives_str_repr y t) ?_ rfl hd
  exact wpAny_formatField_str ⟨.str (reprText y),H1,I1.tok _,⟨_,rfl⟩,q⟩ ⟨.str (reprText y),H1,(I1.tok _).tok _,⟨_,rfl⟩,q⟩ hd
theorem Wo (h1:PE X e1 t1) (h2:PE X e2 t2) (h3:PE X e3 t3):PE X (.JoinedStr [e1,e2,e3] pos) (N1 t1 t2 t3):=by
  intro pins s σ H Q I h
  refine wpAny_JoinedStr ?_
  have e0:(Str.empty).length=0:=rfl
  refine thn (h1 pins s σ H _ I h) fun u1 s1 ⟨x1,H1,I1,r1,a,ea,la,q1⟩=>?_
  subst ea
  obtain ⟨ta,rfl⟩:=r1
  refine ⟨a,ta,rfl,Zh (by rw [strLen_append];omega),?_⟩
  refine thn (h2 pins s1 σ H1 _ I1 q1) fun u2 s2 ⟨x2,H2,I2,r2,b,eb,lb,q2⟩=>?_
  subst eb
  obtain ⟨tb,rfl⟩:=r2
  refine ⟨b,tb,rfl,Zh (by rw [strLen_append,strLen_append];omega),?_⟩
  refine thn (h3 pins s2 σ H2 _ I2 q2) fun u3 s3 ⟨x3,H3,I3,r3,c,ec,lc,q3⟩=>?_
  subst ec
  obtain ⟨tc,rfl⟩:=r3
  refine ⟨c,tc,rfl,Zh (by rw [strLen_append,strLen_append,strLen_append];omega),Zh (by rw [strLen_append,strLen_append,strLen_append];omega),?_⟩
  exact ⟨.str (Str.empty ++ a ++ b ++ c),H3,I3.tok _,⟨_,rfl⟩,q3⟩
theorem G7 (h1:PE X e1 t1) (h2:PE X e2 t2):PE X (.JoinedStr [e1,e2] pos) (N2 t1 t2):=by
  intro pins s σ H Q I h
  refine wpAny_JoinedStr ?_
  have e0:(Str.empty).length=0:=rfl
  refine thn (h1 pins s σ H _ I h) fun u1 s1 ⟨x1,H1,I1,r1,a,ea,la,q1⟩=>?_
  subst ea
  obtain ⟨ta,rfl⟩:=r1
  refine ⟨a,ta,rfl,Zh (by rw [strLen_append];omega),?_⟩
  refine thn (h2 pins s1 σ H1 _ I1 q1) fun u2 s2 ⟨x2,H2,I2,r2,b,eb,lb,q2⟩=>?_
  subst eb
  obtain ⟨tb,rfl⟩:=r2
  refine ⟨b,tb,rfl,Zh (by rw [strLen_append,strLen_append];omega),Zh (by rw [strLen_append,strLen_append];omega),?_⟩
  exact ⟨.str (Str.empty ++ a ++ b),H2,I2.tok _,⟨_,rfl⟩,q2⟩
end
end L2
namespace L2
open PySem PySem.Spec PyProof.Rows
section
variable {X:Cx} {pins:List (Addr × Obj)} {σ:St} {H H':Hp} {s s':Shared} {a:Addr}
end
section
variable {X:Cx}
end
end L2
namespace K22
open PySem L2 TM TT K9 K11
abbrev eR:Expr:=Lq (LR Zt) 3
abbrev qR:Str:=(PyProof.Rows.envOfC "turned_by" (defScope Zt) 0 0 .none).qual ++ "<lambda>"
def opR (l:Lab) (mk:Int) (xs:List (Tree Str)):Tree Str:=match l with
  | .put n k a=>.node n (if k=true then a + mk else a) xs
  | .call _ _=>.node (S []) 0 []
def RT (K:PySem.W.Frag) (H:Hp) (v:V) (t:Tree Str):Prop:=TrV K H v t
theorem NN {K:PySem.W.Frag}:Rep K (RT K):=fun _ _ _ _ k h=>TrV.mono k h
theorem Mj {K:PySem.W.Frag} {H:Hp}:∀ {ys:List V} {xs:List (Tree Str)},RAll (RT K) H ys xs→TrAll K H ys xs
  | _,_,.nil=>.nil
  | _,_,.cons h t=>.cons h (Mj t)
structure Tb3 (T1 T2 T3:Addr) (H:Hp):Prop where
  m:TbS H T1 (ZG eM) qM
  t:TbS H T2 (ZG eT) qT
  r:TbS H T3 (ZG eR) qR
structure Ne3 (T1 T2 T3:Addr):Prop where
  a:T1≠T2
  b:T1≠T3
  c:T2≠T3
def SX3 (T1 T2 T3:Addr) (H H':Hp):Prop:=∀ b u,b≠T1→b≠T2→b≠T3→H b=some u→H' b=some u
theorem SX3.of {T1 T2 T3:Addr} {H H':Hp} (g:Same H H'):SX3 T1 T2 T3 H H':=fun b u _ _ _ e=>g b u e
theorem SX3.trans {T1 T2 T3:Addr} {H H1 H2:Hp} (a:SX3 T1 T2 T3 H H1) (b:SX3 T1 T2 T3 H1 H2):SX3 T1 T2 T3 H H2:=fun c u n m l e=>b c u n m l (a c u n m l e)
theorem Tb3.same {T1 T2 T3:Addr} {H H':Hp} (g:Same H H') (h:Tb3 T1 T2 T3 H):Tb3 T1 T2 T3 H':=⟨h.m.same g,h.t.same g,h.r.same g⟩
theorem Tb3.mo {K:PySem.W.Frag} {T1 T2 T3:Addr} {H H':Hp} (h:Tb3 T1 T2 T3 H) (g:SX3 T1 T2 T3 H H'):Mo K H H':=by
  obtain ⟨p1,h1⟩:=h.m.at
  obtain ⟨p2,h2⟩:=h.t.at
  obtain ⟨p3,h3⟩:=h.r.at
  have go:∀ b u,H b=some u→(∀ ps,u≠.tbl ps)→H' b=some u:=fun b u e n=>g b u (QK e h1 (n p1)) (QK e h2 (n p2)) (QK e h3 (n p3)) e
  constructor
  · intro a xs h
    rcases h with (h | ⟨o,h⟩) | h
    · exact .inl (.inl (go _ _ h fun _ z=>nomatch z))
    · exact .inl (.inr ⟨o,go _ _ h fun _ z=>nomatch z⟩)
    · exact .inr h
  · intro a xs h
    rcases h with (h | ⟨o,h⟩) | h
    · exact .inl (.inl (go _ _ h fun _ z=>nomatch z))
    · exact .inl (.inr ⟨o,go _ _ h fun _ z=>nomatch z⟩)
    · exact .inr h
theorem Tb3.byM {T1 T2 T3:Addr} {H H':Hp} (ne:Ne3 T1 T2 T3) (h:Tb3 T1 T2 T3 H) (g:SameX T1 H H') (k:TbS H' T1 (ZG eM) qM):Tb3 T1 T2 T3 H'∧SX3 T1 T2 T3 H H':=by
  obtain ⟨p1,h1⟩:=h.m.at
  exact ⟨⟨k,TbS.sameX h1 (Ne.symm ne.a) g h.t,TbS.sameX h1 (Ne.symm ne.b) g h.r⟩,fun b u n _ _ e=>g b u n e⟩
theorem Tb3.byT {T1 T2 T3:Addr} {H H':Hp} (ne:Ne3 T1 T2 T3) (h:Tb3 T1 T2 T3 H) (g:SameX T2 H H') (k:TbS H' T2 (ZG eT) qT):Tb3 T1 T2 T3 H'∧SX3 T1 T2 T3 H H':=by
  obtain ⟨p2,h2⟩:=h.t.at
  exact ⟨⟨TbS.sameX h2 ne.a g h.m,k,TbS.sameX h2 (Ne.symm ne.c) g h.r⟩,fun b u _ n _ e=>g b u n e⟩
theorem Tb3.byR {T1 T2 T3:Addr} {H H':Hp} (ne:Ne3 T1 T2 T3) (h:Tb3 T1 T2 T3 H) (g:SameX T3 H H') (k:TbS H' T3 (ZG eR) qR):Tb3 T1 T2 T3 H'∧SX3 T1 T2 T3 H H':=by
  obtain ⟨p3,h3⟩:=h.r.at
  exact ⟨⟨TbS.sameX h3 ne.b g h.m,TbS.sameX h3 ne.c g h.t,k⟩,fun b u _ _ n e=>g b u n e⟩
structure Ask (K:PySem.W.Frag) (H:Hp) (tu wd lm:Addr) (sv:V) (mo:List MdT) (T:Tu) (rv:V) (t:Tree Str):Prop where
  at':TurnAt K H tu wd lm sv mo T
  ok:TurnOk mo T
  bd:TBd T
  l10:mo.length≤10
  tr:TrV K H rv t
  lv:TM.lv t≤40
theorem Ask.mo {K:PySem.W.Frag} {H H':Hp} {tu wd lm:Addr} {sv:V} {mo:List MdT} {T:Tu} {rv:V} {t:Tree Str} (g:Mo K H H') (h:Ask K H tu wd lm sv mo T rv t):Ask K H' tu wd lm sv mo T rv t:=⟨g.turn h.at',h.ok,h.bd,h.l10,h.tr.mono g.t,h.lv⟩
def OU (K:PySem.W.Frag):Sp:=fun vs H Q _=>∃ (v:V) (n:Str) (k:Bool) (ad m:Int) (ts:List Tm),vs=[v,.int m]∧TmV K H v (.node (.put n k ad) 0 ts)∧Q (.int (if k=true then ad + m else ad)) H
def Vq (K:PySem.W.Frag) (C T1 T2 T3:Addr):Sp:=fun vs H Q E=>∃ (tu wd lm:Addr) (sv:V) (mo:List MdT) (T:Tu) (v:V) (u:Tm) (rv:V) (t:Tree Str),vs=[.ref tu,v,rv]∧Ask K H tu wd lm sv mo T rv t∧TmV K H v u∧lv u≤8∧sz u≤100∧St T (u,upT t)∧Tb3 T1 T2 T3 H ∧
  (valT opM 0 T u (upT t)≤400∧valT opT 0 T u (upT t)≤60→∀ (v':V) (H':Hp),SX3 T1 T2 T3 H H'→Tb3 T1 T2 T3 H'→TrV K H' v' (valT opR (.node (S []) 0 []) T u (upT t))→Q v' H') ∧
  (¬ (valT opM 0 T u (upT t)≤400∧valT opT 0 T u (upT t)≤60)→∀ H':Hp,SX3 T1 T2 T3 H H'→Tb3 T1 T2 T3 H'→E (.ref C) none H')
section
variable {P:Program} {w:World} {K:PySem.W.Frag} {mg:Str→Option Value} {base:Heap} {f:Addr} {fd:FuncData}
theorem Rq:FnScope ["term", "mark"] ["term", "mark"] (defScope sMP):=⟨rfl,rfl,rfl,by decide +kernel,rfl,by decide +kernel,by decide +kernel⟩
theorem OV (F:Fun K "mark_put" "mark_put" sMP f fd):FnOk P w K mg base CX0 1 f fd ["term", "mark"] (OU K):=by
  refine F.ok Rq (fun vs H Q E h=>?_) (fun cdv A outer s H vs Q E hr h=>?_)
  · obtain ⟨v,n,k,ad,m,ts,rfl,_⟩:=h
    rfl
  obtain ⟨v,n,k,ad,m,ts,rfl,ht,q⟩:=h
  refine ⟨_,(Qi (Qp (GZ (Zv (Qj Ql (pv 0) Qd (fun _ _=>rfl))) (Qm QG (Qj Ql (pv 0) Qd (fun _ _=>rfl)) (pv 1)) (Qj Ql (pv 0) Qd (fun _ _=>rfl))))),?_⟩
  cases ht with
  | put h1 h2 h3 h4 =>
    refine ⟨_,rfl,_,_,2,_,rfl,rfl,h1,rfl,_,rfl,?_⟩
    cases k with
    | true=>exact Q7 ⟨_,rfl,_,_,3,_,rfl,rfl,h1,rfl,_,rfl,_,_,rfl,rfl,q⟩
    | false=>exact Zu ⟨_,rfl,_,_,3,_,rfl,rfl,h1,rfl,q⟩
theorem Ri:FnScope ["put", "mark", "parts"] ["put", "mark", "parts"] (Q4 eR):=⟨rfl,rfl,rfl,by decide +kernel,rfl,by decide +kernel,by decide +kernel⟩
theorem LH (G:Gm mg) (RP:Fn P w K mg base 1 "mark_put" ["term", "mark"] (OU K)):WL P w K mg base 2 eR (GW K (RT K) opR):=by
  refine Xg Ri (fun vs H Q E h=>?_) (fun qual pm c ctv us h=>?_) (fun qual f c A outer s H vs Q E hr h=>?_)
  · obtain ⟨v,u,mk,lp,ys,xs,rfl,_⟩:=h
    rfl
  · obtain ⟨a,b,d,rfl⟩:=Om h
    rfl
  · obtain ⟨v,u,mk,lp,ys,xs,rfl,hu,hc,hl,hx,hxl,q⟩:=h
    refine ⟨_,(QJ (Qa (Qj Ql (pv 0) Qd (fun _ _=>rfl)) (Qa (Qr RP hr (Qa (pv 0) (Qa (pv 1) Qc))) (Qa (QB Q8 rfl G.tup PyProof.Rows.boot_tuple (Qa (pv 2) Qc)) Qc)))),?_⟩
    rcases Yk hu with ⟨a,m,b,rfl,rfl,h1⟩ | ⟨a,b,bs,nm,k,ad,rfl,et,h1,h2,h3,h4⟩
    · cases hc
    have hxa:=Mj hx
    refine ⟨_,rfl,a,_,1,_,rfl,rfl,h1,rfl,_,rfl,_,rfl,.ref a,nm,k,ad,mk,u.bs,rfl,et ▸ hu,?_⟩
    refine ⟨_,rfl,lp,_,rfl,.inl ⟨SqL.of hl,fun p hp=>?_⟩⟩
    have g1:=Qf hp (.tup ys)
    refine ⟨(by show 3≤sizeLine;decide),fun p2 hp2=>?_⟩
    have g2:=Qf hp2 (.tup [.str nm,.int (if k=true then ad + mk else ad),.ref p])
    refine q _ _ (g1.trans g2) ?_
    have hlab:lab u=.put nm k ad:=by rw [et];rfl
    rw [hlab]
    exact TrV.mk (SqT.of Qb) (g2.seqT (SqT.of Qb)) (hxa.mono fun _ _ h=>g2.seqT (g1.seqT h)) (by rw [hxa.length];omega)
theorem Pg:FnScope ["turning", "term", "tree"] ["turning", "term", "tree"] (defScope Zt):=⟨rfl,rfl,rfl,by decide +kernel,rfl,by decide +kernel,by decide +kernel⟩
theorem N7 {c C T1 T2 T3:Addr} {newId Bn inN:String} {bmN:List Value} {tk1 tk2:Tok} (F:Fun K "turned_by" "turned_by" Zt f fd) (hn:PySem.W.nsIn K mainGlobals "turned_by" = some (some (.ref f))) (hT:PySem.W.tabIn K "turned_by" = some (c,T3)) (hC:PySem.W.codeHdIn K c T3=true) (hB:U4 mg base)
    (h4:mg "MOST_NAMES" = some (.int 400 tk1)) (h6:mg "MOST_LEVELS" = some (.int 60 tk2)) (hm:mg "TooGreat" = some (.ref C)) (hq:PySem.W.excIn K C Wl newId=true) (Fn':ExcBaseFacts Bn newId inN bmN) (hBn:Wl.contains (.type Bn)=true) (ne:Ne3 T1 T2 T3)
    (RM:Fn P w K mg base 55 "many_by" ["turning", "term", "tree"] (Gv K T1 eM qM opM)) (RT':Fn P w K mg base 55 "tall_by" ["turning", "term", "tree"] (Gv K T2 eT qT opT)) (RO:Fn P w K mg base 54 "outcome" ["turning", "term", "tree", "make"] (U8 K eR (RT K) opR (.node (S []) 0 []))) :
    FnOk P w K mg base (CX1 P w) 56 f fd ["turning", "term", "tree"] (Vq K C T1 T2 T3):=by
  refine Fun.okXC F hn hT Pg (fun vs H Q E h=>?_) (fun A outer s H vs Q E hr h=>?_)
  · obtain ⟨tu,wd,lm,sv,mo,T,v,u,rv,t,rfl,_⟩:=h
    rfl
  obtain ⟨tu,wd,lm,sv,mo,T,v,u,rv,t,rfl,hA,hv,hlu,hsu,hst,htb,q1,q2⟩:=h
  refine ⟨_,(Qe (QT (Qy Jp (Qr RM hr (Qa (pv 0) (Qa (pv 1) (Qa (pv 2) Qc)))) (Uo (v:=.int 400) rfl h4 ⟨_,rfl⟩) (QA _)) (Qi (US hm hq Fn' hBn (Qa (Wo Q6 (Vp (Uo (v:=.int 400) rfl h4 ⟨_,rfl⟩)) Q6) Qc))) Qx)
    (Qe (QT (Qy Jp (Qr RT' hr (Qa (pv 0) (Qa (pv 1) (Qa (pv 2) Qc)))) (Uo (v:=.int 60) rfl h6 ⟨_,rfl⟩) (QA _)) (Qi (US hm hq Fn' hBn (Qa (Wo Q6 (Vp (Uo (v:=.int 60) rfl h6 ⟨_,rfl⟩)) Q6) Qc))) Qx)
    (Qi (Qp (Qr RO hr (Qa (pv 0) (Qa (pv 1) (Qa (pv 2) (Qa (Wz (c:=c) (T:=T3) rfl hC hB) Qc))))))))),?_⟩
  refine ⟨_,rfl,_,rfl,_,rfl,tu,wd,lm,sv,mo,T,v,u,rv,t,rfl,hA.at',hA.ok,hA.bd,hA.l10,hv,hlu,hsu,hA.tr,hA.lv,hst,htb.m,fun H1 g1 k1=>?_⟩
  obtain ⟨tb1,x1⟩:=htb.byM ne g1 k1
  have m1:Mo K H H1:=htb.mo x1
  refine ⟨_,_,rfl,rfl,_,rfl,Y8 (fun c=>?_) (fun c=>?_)⟩
  · have c':((valT opM 0 T u (upT t):Nat):Int) > 400:=of_decide_eq_true c
    exact ⟨_,rfl,by decide +kernel,400,rfl,by decide +kernel,_,rfl,by decide +kernel,_,rfl,by decide +kernel,(by show 1≤sizeLine;decide),q2 (fun z=>by omega) H1 x1 tb1⟩
  have c':¬ ((valT opM 0 T u (upT t):Nat):Int) > 400:=fun z=>c (decide_eq_true z)
  have hA1:=hA.mo m1
  refine ⟨_,rfl,_,rfl,_,rfl,tu,wd,lm,sv,mo,T,v,u,rv,t,rfl,hA1.at',hA1.ok,hA1.bd,hA1.l10,hv.mono m1.t,hlu,hsu,hA1.tr,hA1.lv,hst,tb1.t,fun H2 g2 k2=>?_⟩
  obtain ⟨tb2,x2⟩:=tb1.byT ne g2 k2
  have m2:Mo K H1 H2:=tb1.mo x2
  have hA2:=hA1.mo m2
  refine ⟨_,_,rfl,rfl,_,rfl,Y8 (fun d=>?_) (fun d=>?_)⟩
  · have d':((valT opT 0 T u (upT t):Nat):Int) > 60:=of_decide_eq_true d
    exact ⟨_,rfl,by decide +kernel,60,rfl,by decide +kernel,_,rfl,by decide +kernel,_,rfl,by decide +kernel,(by show 1≤sizeLine;decide),q2 (fun z=>by omega) H2 (x1.trans x2) tb2⟩
  have d':¬ ((valT opT 0 T u (upT t):Nat):Int) > 60:=fun z=>d (decide_eq_true z)
  refine ⟨_,rfl,_,rfl,_,rfl,tb2.r,fun fm H3 g3 _ hL k3=>?_⟩
  obtain ⟨tb3,x3⟩:=tb2.byR ne g3 k3
  have m3:Mo K H2 H3:=tb2.mo x3
  have hA3:=hA2.mo m3
  exact ⟨tu,wd,lm,sv,mo,T,v,u,rv,t,fm,rfl,hA3.at',hA3.ok,hA3.bd,hA3.l10,((hv.mono m1.t).mono m2.t).mono m3.t,hlu,hsu,hA3.tr,hA3.lv,hst,hL,fun v' H4 g4 hv'=>q1 ⟨by omega,by omega⟩ v' H4 (x1.trans (x2.trans (x3.trans (SX3.of g4)))) (tb3.same g4) hv'⟩
end
end K22
namespace K22
open PySem L2 TM TT K9 K11
def VG (K:PySem.W.Frag) (C:Addr):Sp:=fun vs H Q E=>∃ (w:Addr) (kind:Str) (v:V) (t:Tree Str) (ks:List KdT),vs=[.ref w,.str kind,v]∧WoodAt K H w ks∧WoodOk ks∧TrV K H v t∧lv t≤40∧(reprText kind).length≤1000 ∧
  (isT (QW ks) t kind=true→∀ H':Hp,Same H H'→Q .non H')∧(isT (QW ks) t kind=false→∀ H':Hp,Same H H'→E (.ref C) none H')
def Mz (K:PySem.W.Frag) (C:Addr):Sp:=fun vs H Q E=>∃ (w:Addr) (v:V) (t:Tree Str) (ks:List KdT) (k0:KdT),vs=[.ref w,v]∧WoodAt K H w ks∧WoodOk ks∧ks[0]?=some k0∧TrV K H v t∧lv t≤40∧(reprText k0.2.1).length≤1000 ∧
  (isT (QW ks) t k0.2.1=true→∀ H':Hp,Same H H'→Q .non H')∧(isT (QW ks) t k0.2.1=false→∀ H':Hp,Same H H'→E (.ref C) none H')
abbrev Um (T:Tu) (u:Tm) (t:Tree Str):Prop:=valT opM 0 T u (upT t)≤400∧valT opT 0 T u (upT t)≤60
abbrev Jv (T:Tu) (u:Tm) (t:Tree Str):Tree Str:=valT opR (.node (S []) 0 []) T u (upT t)
def Od (K:PySem.W.Frag) (CN CG T1 T2 T3:Addr):Sp:=fun vs H Q E=>∃ (tu wd lm:Addr) (sv:V) (mo:List MdT) (T:Tu) (rv:V) (t:Tree Str),vs=[.ref tu,rv]∧Ask K H tu wd lm sv mo T rv t∧lv T.start≤8∧sz T.start≤100∧(reprText T.k0).length≤1000∧Tb3 T1 T2 T3 H ∧
  (isT (QW T.ks) t T.k0=false→∀ H':Hp,SX3 T1 T2 T3 H H'→Tb3 T1 T2 T3 H'→E (.ref CN) none H') ∧
  (isT (QW T.ks) t T.k0=true→Um T T.start t→∀ (v':V) (H':Hp),SX3 T1 T2 T3 H H'→Tb3 T1 T2 T3 H'→TrV K H' v' (Jv T T.start t)→Q v' H') ∧
  (isT (QW T.ks) t T.k0=true→¬ Um T T.start t→∀ H':Hp,SX3 T1 T2 T3 H H'→Tb3 T1 T2 T3 H'→E (.ref CG) none H')
def W2 (K:PySem.W.Frag) (CN CG T1 T2 T3:Addr):Sp:=fun vs H Q E=>∃ (tu wd lm:Addr) (sv:V) (mo:List MdT) (T:Tu) (rv:V) (t:Tree Str) (m:Nat) (md:MdT),vs=[.ref tu,.int (m:Int),rv]∧Ask K H tu wd lm sv mo T rv t∧mo[m]?=some md∧(reprText md.2.1).length≤1000∧Tb3 T1 T2 T3 H ∧
  (isT (QW T.ks) t md.2.1=false→∀ H':Hp,SX3 T1 T2 T3 H H'→Tb3 T1 T2 T3 H'→E (.ref CN) none H') ∧
  (isT (QW T.ks) t md.2.1=true→Um T (Ze (m:Int) 0) t→∀ (v':V) (H':Hp),SX3 T1 T2 T3 H H'→Tb3 T1 T2 T3 H'→TrV K H' v' (Jv T (Ze (m:Int) 0) t)→Q v' H') ∧
  (isT (QW T.ks) t md.2.1=true→¬ Um T (Ze (m:Int) 0) t→∀ H':Hp,SX3 T1 T2 T3 H H'→Tb3 T1 T2 T3 H'→E (.ref CG) none H')
section
variable {P:Program} {w:World} {K:PySem.W.Frag} {mg:Str→Option Value} {base:Heap} {f:Addr} {fd:FuncData}
theorem OB {C:Addr} {newId Bn inN:String} {bmN:List Value} (F:Fun K "need_of" "need_of" Ut f fd) (hm:mg "NoTree" = some (.ref C)) (hq:PySem.W.excIn K C Wl newId=true) (Fn':ExcBaseFacts Bn newId inN bmN) (hBn:Wl.contains (.type Bn)=true) (RI:Fn P w K mg base 42 "is_of" ["wood", "kind", "tree"] (Yb K 40)):FnOk P w K mg base (CX1 P w) 43 f fd ["wood", "kind", "tree"] (VG K C):=by
  refine Fun.okX F L5 (fun vs H Q E h=>?_) (fun cdv A outer s H vs Q E hr h=>?_)
  · obtain ⟨w,kind,v,t,ks,rfl,_⟩:=h
    rfl
  obtain ⟨wd,kind,v,t,ks,rfl,hW,hO,ht,hlv,hrp,q1,q2⟩:=h
  refine ⟨_,(Qi (QT (Z2 (Zv (Qr RI hr (Qa (pv 0) (Qa (pv 1) (Qa (pv 2) Qc)))))) (Qi (US hm hq Fn' hBn (Qa (G7 Q6 (Nz (pv 1))) Qc))) Qx)),?_⟩
  refine ⟨_,rfl,_,rfl,_,rfl,wd,kind,v,t,ks,rfl,hW,hO,ht,hlv,fun H1 g1=>⟨_,rfl,?_⟩⟩
  cases hb:isT (QW ks) t kind with
  | true=>exact Zu (q1 hb H1 g1)
  | false=>exact Q7 ⟨_,rfl,by decide +kernel,_,rfl,kind,rfl,Zh (by omega),_,rfl,hrp,(by show 1≤sizeLine;decide),q2 hb H1 g1⟩
theorem OQ {C:Addr} (F:Fun K "need_in" "need_in" Uw f fd) (RN:FnX P w K mg base 43 "need_of" ["wood", "kind", "tree"] (VG K C)):FnOk P w K mg base (CX1 P w) 44 f fd ["wood", "tree"] (Mz K C):=by
  refine Fun.okX F GD (fun vs H Q E h=>?_) (fun cdv A outer s H vs Q E hr h=>?_)
  · obtain ⟨w,v,t,ks,k0,rfl,_⟩:=h
    rfl
  obtain ⟨wd,v,t,ks,k0,rfl,hW,hO,hk0,ht,hlv,hrp,q1,q2⟩:=h
  refine ⟨_,(Qi (Q2 (Yr (EE:=fun _=>E) RN hr (XI fun _ _ h=>h) (Qa (pv 0) (Qa (Qj Ql (Qj Qk (pv 0) Qd (fun _ _=>rfl)) Qd (fun _ _=>rfl)) (Qa (pv 1) Qc)))))),?_⟩
  have hat:atI (ks.map fun k=>V.ref k.1) 0=some (.ref k0.1):=Qv (j:=0) (by rw [List.getElem?_map,hk0];rfl)
  exact ⟨_,rfl,_,rfl,wd,_,0,_,rfl,rfl,hW.1,hat,k0.1,_,0,_,rfl,rfl,(hW.2 k0 (List.mem_of_getElem? hk0)).1,rfl,_,rfl,wd,k0.2.1,v,t,ks,rfl,hW,hO,ht,hlv,hrp,q1,q2⟩
theorem P5:FnScope ["turning", "tree"] ["turning", "tree"] (defScope Uu):=⟨rfl,rfl,rfl,by decide +kernel,rfl,by decide +kernel,by decide +kernel⟩
theorem Ob:FnScope ["turning", "mode", "tree"] ["turning", "mode", "tree"] (defScope Yl):=⟨rfl,rfl,rfl,by decide +kernel,rfl,by decide +kernel,by decide +kernel⟩
theorem Pj {CN CG T1 T2 T3:Addr} (F:Fun K "turned" "turned" Uu f fd) (RN:FnX P w K mg base 44 "need_in" ["wood", "tree"] (Mz K CN)) (RB:FnX P w K mg base 56 "turned_by" ["turning", "term", "tree"] (Vq K CG T1 T2 T3)):FnOk P w K mg base (CX1 P w) 57 f fd ["turning", "tree"] (Od K CN CG T1 T2 T3):=by
  refine Fun.okX F P5 (fun vs H Q E h=>?_) (fun cdv A outer s H vs Q E hr h=>?_)
  · obtain ⟨tu,wd,lm,sv,mo,T,rv,t,rfl,_⟩:=h
    rfl
  obtain ⟨tu,wd,lm,sv,mo,T,rv,t,rfl,hA,hls,hss,hrp,htb,q1,q2,q3⟩:=h
  refine ⟨_,(Qe (Q2 (Yr (EE:=fun _=>E) RN hr (XI fun _ _ h=>h) (Qa (Qj Ql (pv 0) Qd (fun _ _=>rfl)) (Qa (pv 1) Qc))))
    (Qi (Qp (Yr (EE:=fun _=>E) RB hr (XI fun _ _ h=>h) (Qa (pv 0) (Qa (Qj Ql (pv 0) Qd (fun _ _=>rfl)) (Qa (pv 1) Qc))))))),?_⟩
  obtain ⟨k0,hk0,ek0⟩:=hA.ok.k0
  refine ⟨_,rfl,tu,_,0,_,rfl,rfl,hA.at'.tu,rfl,_,rfl,wd,rv,t,T.ks,k0,rfl,hA.at'.w,hA.ok.wo,hk0,hA.tr,hA.lv,by rw [ek0];exact hrp,fun his H1 g1=>?_,fun his H1 g1=>q1 (by rw [← ek0];exact his) H1 (SX3.of g1) (htb.same g1)⟩
  rw [ek0] at his
  have hA1:=hA.mo (Mo.of g1)
  refine ⟨_,rfl,_,rfl,tu,_,1,_,rfl,rfl,g1.seqT hA.at'.tu,rfl,_,rfl,tu,wd,lm,sv,mo,T,sv,T.start,rv,t,rfl,hA1,hA1.at'.s,hls,hss,St.start hA.ok.ok his,htb.same g1,fun hf v' H2 g2 tb2 hv'=>q2 his hf v' H2 ((SX3.of g1).trans g2) tb2 hv',fun hf H2 g2 tb2=>q3 his hf H2 ((SX3.of g1).trans g2) tb2⟩
theorem MW {CN CG T1 T2 T3:Addr} (F:Fun K "turned_in" "turned_in" Yl f fd) (RN:FnX P w K mg base 43 "need_of" ["wood", "kind", "tree"] (VG K CN)) (RB:FnX P w K mg base 56 "turned_by" ["turning", "term", "tree"] (Vq K CG T1 T2 T3)):FnOk P w K mg base (CX1 P w) 57 f fd ["turning", "mode", "tree"] (W2 K CN CG T1 T2 T3):=by
  refine Fun.okX F Ob (fun vs H Q E h=>?_) (fun cdv A outer s H vs Q E hr h=>?_)
  · obtain ⟨tu,wd,lm,sv,mo,T,rv,t,m,md,rfl,_⟩:=h
    rfl
  obtain ⟨tu,wd,lm,sv,mo,T,rv,t,m,md,rfl,hA,hmd,hrp,htb,q1,q2,q3⟩:=h
  refine ⟨_,(Qe (Q2 (Yr (EE:=fun _=>E) RN hr (XI fun _ _ h=>h) (Qa (Qj Ql (pv 0) Qd (fun _ _=>rfl)) (Qa (Qj Ql (Qj Qk (Qj Ql (pv 0) Qd (fun _ _=>rfl)) (pv 1) (fun _ _=>rfl)) Qd (fun _ _=>rfl)) (Qa (pv 2) Qc)))))
    (Qi (Qp (Yr (EE:=fun _=>E) RB hr (XI fun _ _ h=>h) (Qa (pv 0) (Qa ((QJ (Qa (Q6) (Qa (pv 1) (Qa (Qd) Qc))))) (Qa (pv 2) Qc))))))),?_⟩
  have hmm:=List.mem_of_getElem? hmd
  have hat:atI (mo.map fun m=>V.ref m.1) (m:Int)=some (.ref md.1):=Qv (by rw [List.getElem?_map,hmd];rfl)
  have hTm:T.ms[m]?=some md.md:=by rw [← hA.ok.me,List.getElem?_map,hmd];rfl
  refine ⟨_,rfl,tu,_,0,_,rfl,rfl,hA.at'.tu,rfl,_,rfl,tu,_,2,_,rfl,rfl,hA.at'.tu,rfl,_,rfl,lm,_,_,_,rfl,rfl,hA.at'.m.1,hat,md.1,_,0,_,rfl,rfl,(hA.at'.m.2 md hmm).1,rfl,_,rfl,wd,md.2.1,rv,t,T.ks,rfl,hA.at'.w,hA.ok.wo,hA.tr,hA.lv,hrp,fun his H1 g1=>?_,fun his H1 g1=>q1 his H1 (SX3.of g1) (htb.same g1)⟩
  refine ⟨_,rfl,_,rfl,(by show 3≤sizeLine;decide),fun p hp=>⟨_,rfl,?_⟩⟩
  have k1:=Qf hp (.tup [.str CALL,.int (m:Int),.int 0])
  have g2:=g1.trans k1
  have hlf:TmV K (upd H1 p (.tup [.str CALL,.int (m:Int),.int 0])) (.ref p) (Ze (m:Int) 0):=.call (SqT.of Qb)
  have hSt:St T (Ze (m:Int) 0,upT t):=St.mode (by omega) (by rw [Int.toNat_natCast];exact hTm) his
  exact ⟨tu,wd,lm,sv,mo,T,.ref p,Ze (m:Int) 0,rv,t,rfl,hA.mo (Mo.of g2),hlf,by simp [Ze,TM.lv,lvs],by simp [Ze,TM.sz,szs],hSt,htb.same g2,fun hf v' H3 g3 tb3 hv'=>q2 his hf v' H3 ((SX3.of g2).trans g3) tb3 hv',fun hf H3 g3 tb3=>q3 his hf H3 ((SX3.of g2).trans g3) tb3⟩
end
end K22
namespace K22
open PySem L2 TM TT K9 K11
def RP (K:PySem.W.Frag) (H:Hp) (v:V) (a:Nat × Nat):Prop:=∃ p,v=.ref p∧SqT K H p [.int (a.1:Int),.int (a.2:Int)]
theorem Ua {K:PySem.W.Frag}:Rep K (RP K):=fun _ _ _ _ k ⟨p,e,h⟩=>⟨p,e,k _ _ h⟩
def opP (_:Lab) (_:Int) (xs:List (Nat × Nat)):Nat × Nat:=(1 + (xs.map (·.1)).sum,1 + (xs.map (·.2)).foldl max 0)
mutual
theorem Y6 {mk:Int} {cv:Int→Int→Nat × Nat}:∀ u:Tm,QN (fun l xs=>opP l mk xs) cv u=(QN (fun l xs=>opM l mk xs) (fun m b=>(cv m b).1) u,QN (fun l xs=>opT l mk xs) (fun m b=>(cv m b).2) u)
  | .node (.call m b) _ _=>by simp only [QN]
  | .node (.put n k a) _ bs=>by
    simp only [QN]
    obtain ⟨h1,h2⟩:=UN (mk:=mk) (cv:=cv) bs
    show (1 + ((Q1 (fun l xs=>opP l mk xs) cv bs).map (·.1)).sum,1 + ((Q1 (fun l xs=>opP l mk xs) cv bs).map (·.2)).foldl max 0)=_
    rw [h1,h2]
    rfl
theorem UN {mk:Int} {cv:Int→Int→Nat × Nat}:∀ us:List Tm,(Q1 (fun l xs=>opP l mk xs) cv us).map (·.1)=Q1 (fun l xs=>opM l mk xs) (fun m b=>(cv m b).1) us∧(Q1 (fun l xs=>opP l mk xs) cv us).map (·.2)=Q1 (fun l xs=>opT l mk xs) (fun m b=>(cv m b).2) us
  | []=>⟨rfl,rfl⟩
  | t :: r=>by
    obtain ⟨h1,h2⟩:=UN (mk:=mk) (cv:=cv) r
    simp only [Q1,List.map_cons]
    rw [h1,h2,Y6 t]
    exact ⟨rfl,rfl⟩
end
mutual
theorem Jj {ks:List KdT} {ms:List Md}:∀ (t:Tree Str) (m:Int),Zl opP (0,0) ks ms t m=(Zl opM 0 ks ms t m,Zl opT 0 ks ms t m)
  | .node n mk bs,m=>by
    simp only [Zl]
    cases ms[m.toNat]? with
    | none=>rfl
    | some md =>
      simp only
      cases ruleK ks md n with
      | none=>rfl
      | some u =>
        simp only
        rw [Y6]
        have h:=JK (ks:=ks) (ms:=ms) bs
        simp only [h]
theorem JK {ks:List KdT} {ms:List Md}:∀ (ts:List (Tree Str)) (i:Nat) (m:Int),((Za opP (0,0) ks ms ts)[i]?).elim (0,0) (fun g=>g m)=(((Za opM 0 ks ms ts)[i]?).elim 0 (fun g=>g m),((Za opT 0 ks ms ts)[i]?).elim 0 (fun g=>g m))
  | [],i,m=>by simp [Za]
  | t :: r,0,m=>by
    simp only [Za,List.getElem?_cons_zero,Option.elim_some]
    exact Jj t m
  | t :: r,i + 1,m=>by
    simp only [Za,List.getElem?_cons_succ]
    exact JK r i m
end
theorem X1 {T:Tu} {u:Tm} {r:Tree Str}:valT opP (0,0) T u r=(valT opM 0 T u r,valT opT 0 T u r):=by
  unfold valT
  rw [Y6]
  have h1:∀ (m b:Int),(r.bs[b.toNat]?).elim (0,0) (fun c=>Zl opP (0,0) T.ks T.ms c m)=((r.bs[b.toNat]?).elim 0 (fun c=>Zl opM 0 T.ks T.ms c m),(r.bs[b.toNat]?).elim 0 (fun c=>Zl opT 0 T.ks T.ms c m)):=fun m b=>by
    cases r.bs[b.toNat]? with
    | none=>rfl
    | some c=>exact Jj c m
  simp only [h1]
def Z5 (K:PySem.W.Frag) (n:Nat):Sp:=fun vs H Q _=>∃ (v:V) (u:Tm) (lb:Addr) (ds:List Addr) (cv:Int→Int→Nat × Nat),vs=[v,.ref lb]∧TmV K H v u∧lv u≤n∧SqL K H lb (ds.map V.ref)∧BelAt (RP K) H ds cv (cls u) ∧
  ∀ (v':V) (H':Hp),Same H H'→RP K H' v' (QN (fun l xs=>opP l 0 xs) cv u)→Q v' H'
abbrev Pq:List Str:=["_law_term_here", "_law_below", "_law_total", "_law_deep", "_law_part", "_law_one", "_law_other"]
theorem Ws (xs:List Nat) (x:Nat):(xs ++ [x]).foldl max 0=max (xs.foldl max 0) x:=by rw [List.foldl_append];rfl
section
variable {P:Program} {w:World} {K:PySem.W.Frag} {mg:Str→Option Value} {base:Heap} {f:Addr} {fd:FuncData}
theorem Z1:FnScope Pq ["_law_term_here", "_law_below"] (defScope Wg):=⟨rfl,rfl,rfl,by decide +kernel,rfl,by decide +kernel,by decide +kernel⟩
theorem NE {n:Nat} (F:Fun K "_law_measure" "_law_measure" Wg f fd) (G:Gm mg) (R:Fn P w K mg base (n + 1) "_law_measure" ["_law_term_here", "_law_below"] (Z5 K n)):FnOk P w K mg base CX0 (n + 2) f fd ["_law_term_here", "_law_below"] (Z5 K (n + 1)):=by
  refine F.ok Z1 (fun vs H Q E h=>?_) (fun cdv A outer s H vs Q E hr h=>?_)
  · obtain ⟨v,u,lb,ds,cv,rfl,_⟩:=h
    rfl
  obtain ⟨v,u,lb,ds,cv,rfl,ht,hlv,hlb,hB,q⟩:=h
  refine ⟨_,(Qe (QT (Qy ZK (Qj Ql (pv 0) Qd (fun _ _=>rfl)) Q6 (QA _)) (Qi (Qp (Zy (ZL hr) (Qj Qk (pv 1) (Qj Ql (pv 0) Qd (fun _ _=>rfl)) (fun _ _=>rfl)) (Qj Ql (pv 0) Qd (fun _ _=>rfl)) (fun _ _=>rfl)))) Qx)
    (Qe (Qn (i:=2) Z1.nd rfl (Or.inl rfl) Qd)
    (Qe (Qn (i:=3) Z1.nd rfl (Or.inl rfl) Qd)
    (Qe (QU PassesOwn.never rfl (YZ (Qj Ql (pv 0) Qd (fun _ _=>rfl))) (Qu (i:=4) Z1.nd rfl (Or.inl rfl)) (Qe (Yu (Qr R hr (Qa (pv 4) (Qa (pv 1) Qc)) (Nat.le_refl _)) (ZY rfl (QF (Qu (i:=5) Z1.nd rfl (Or.inl rfl)) (QF (Qu (i:=6) Z1.nd rfl (Or.inl rfl)) Zq))))
    (Qe (Qn (i:=2) Z1.nd rfl (Or.inl rfl) (Qm QG (pv 2) (pv 5)))
    (Qi (Qn (i:=3) Z1.nd rfl (Or.inl rfl) (Qq (V3 rfl) rfl G.max PyProof.Rows.boot_max (Qa (pv 3) (Qa (pv 6) Qc))))))))
    (Qi (Qp (QJ (Qa (pv 2) (Qa (Qm QG (pv 3) Qd) Qc))))))))),?_⟩
  rcases Yk ht with ⟨a,m,b,rfl,rfl,h1⟩ | ⟨a,b,bs,nm,k,ad,rfl,et,h1,h2,h3,h4⟩
  · obtain ⟨h0,d,kvs,x,e1,e2,e3,e4⟩:=hB (m,b) (by simp [Ze,cls,lcl,Zj])
    have em:b=((b.toNat:Nat):Int):=by
      have:(0:Int)≤b:=h0
      omega
    refine ⟨_,rfl,a,_,0,_,rfl,rfl,h1,rfl,rfl,_,rfl,Xm rfl ?_⟩
    refine ⟨_,rfl,_,rfl,a,_,2,_,rfl,rfl,h1,rfl,lb,_,b,.ref d,rfl,rfl,hlb,?_,_,rfl,a,_,1,_,rfl,rfl,h1,rfl,d,x,rfl,.inl ⟨kvs,.inl m,e2,rfl,e3.symm⟩,q x H (Same.refl _) e4⟩
    rw [em];exact Qv (by rw [List.getElem?_map,e1];rfl)
  have ecls:cls u=Zj u.bs:=by
    have:=congrArg cls et
    rw [this];simp [cls,lcl]
  rw [ecls] at hB
  have hlen:=h3.length
  rw [Zn] at hlv
  refine ⟨_,rfl,a,_,0,_,rfl,rfl,h1,rfl,rfl,_,rfl,Wa (by show ¬ V.str PUT=V.str CALL;decide +kernel) ?_⟩
  refine ⟨_,rfl,a,_,4,_,rfl,rfl,h1,rfl,b,rfl,⟨_,h2⟩,?_⟩
  refine J2 (K:=K) (xs:=bs) (fun i σ H'=>∃ (c4 c5 c6:Option V),σ=[some (.ref a),some (.ref lb),some (.int ((1 + (((u.bs.take i).map fun t=>(QN (fun l xs=>opP l 0 xs) cv t).1).sum):Nat):Int)),some (.int (((((u.bs.take i).map fun t=>(QN (fun l xs=>opP l 0 xs) cv t).2).foldl max 0):Nat):Int)),c4,c5,c6]∧Same H H')
    ⟨none,none,none,rfl,Same.refl _⟩ ?_ ?_ ?_
  · rintro i σ H' _ ⟨_,_,_,_,g⟩
    exact g.seqT h2
  · rintro i x σ H1 hx ⟨c4,c5,c6,rfl,g⟩
    have hi:i < bs.length:=(List.getElem?_eq_some_iff.mp hx).1
    obtain ⟨c,hc⟩ : ∃ c,u.bs[i]?=some c:=⟨_,List.getElem?_eq_getElem (by omega)⟩
    obtain ⟨cv',hcv,hct⟩:=h3.get hc
    obtain rfl:cv'=x:=Option.some.inj (hcv.symm.trans hx)
    have hm:=List.mem_of_getElem? hc
    have a1:=Ud hm
    refine ⟨_,rfl,_,rfl,cv',c,lb,ds,cv,rfl,hct.mono fun _ _=>g.seqT,by omega,g.seq hlb,(hB.sub fun d hd=>Ye hm hd).same Ua g,fun v' H2 g2 hv'=>?_⟩
    obtain ⟨p,rfl,hp⟩:=hv'
    refine ⟨p,_,rfl,hp,rfl,_,_,rfl,_,_,rfl,rfl,_,rfl,_,rfl,_,_,rfl,rfl,_,rfl,_,rfl,_,_,rfl,some cv',some (.int (((QN (fun l xs=>opP l 0 xs) cv c).1:Nat):Int)),some (.int (((QN (fun l xs=>opP l 0 xs) cv c).2:Nat):Int)),?_,g.trans g2⟩
    have et:u.bs.take (i + 1)=u.bs.take i ++ [c]:=by rw [List.take_add_one,hc];rfl
    rw [et,List.map_append,List.map_append,List.sum_append]
    have ef2:=Ws ((u.bs.take i).map fun t=>(QN (fun l xs=>opP l 0 xs) cv t).2) (QN (fun l xs=>opP l 0 xs) cv c).2
    simp only [List.map_cons,List.map_nil,List.sum_cons,List.sum_nil]
    rw [ef2]
    have e1:∀ x y:Nat,(if (y:Int) > (x:Int) then (y:Int) else (x:Int))=((max x y:Nat):Int):=fun x y=>by split <;> omega
    rw [← e1]
    have e2:∀ x y:Nat,((1 + (x + (y + 0)):Nat):Int)=((1 + x:Nat):Int)+(y:Int):=fun x y=>by omega
    rw [e2]
    rfl
  · rintro σ H1 ⟨c4,c5,c6,rfl,g⟩
    rw [List.take_of_length_le (by omega)]
    refine ⟨_,rfl,_,rfl,_,_,rfl,rfl,(by show 2≤sizeLine;decide),fun p hp=>q _ _ (g.trans (Qf hp _)) ⟨p,rfl,?_⟩⟩
    have ev:QN (fun l xs=>opP l 0 xs) cv u=(1 + ((u.bs.map fun t=>(QN (fun l xs=>opP l 0 xs) cv t).1).sum),1 + ((u.bs.map fun t=>(QN (fun l xs=>opP l 0 xs) cv t).2).foldl max 0)):=by
      rw [et]
      simp only [QN,ZW,opP,List.map_map]
      rfl
    rw [ev]
    have e2:∀ (S D:Nat) (H1:Hp),SqT K (upd H1 p (.tup [.int ((1 + S:Nat):Int),.int ((D:Int)+1)])) p [.int ((1 + S:Nat):Int),.int ((1 + D:Nat):Int)]:=fun S D H1=>by rw [show ((1 + D:Nat):Int)=(D:Int)+1 by omega];exact SqT.of Qb
    exact e2 _ _ _
theorem Gi {k:Nat}:FnOk P w K mg base CX0 k f fd ["_law_term_here", "_law_below"] (Z5 K 0):=by
  have no:∀ vs H Q E,¬ Z5 K 0 vs H Q E:=fun vs H Q E h=>by
    obtain ⟨v,u,lb,ds,cv,_,_,h0,_⟩:=h
    rw [Zn] at h0;omega
  exact ⟨fun vs H Q E h=>absurd h (no vs H Q E),fun A outer s H args us vs Q E _ _ _ _ h=>absurd h (no vs H Q E)⟩
theorem XQ (F:Fun K "_law_measure" "_law_measure" Wg f fd) (G:Gm mg) (hb:Binds K fd ["_law_term_here", "_law_below"] []) (hm:mg "_law_measure" = some (.ref f)):∀ n:Nat,FnOk P w K mg base CX0 (n + 1) f fd ["_law_term_here", "_law_below"] (Z5 K n)
  | 0=>Gi
  | n + 1=>NE F G ⟨f,fd,XQ F G hb hm n,hb,F.kp,hm⟩
end
end K22
namespace K22
open PySem L2 TM TT K9 K11
structure Trk (K:PySem.W.Frag) (H:Hp) (ln lt:Addr) (ks:List KdT) (ns:List Nd) (us:List V) (ts:List (Tree Str)):Prop where
  n:NdsAt K H ln ns
  t:SqL K H lt us
  a:TrAll K H us ts
  len:ts.length=ns.length
  ok:∀ (i:Nat) n t,ns[i]?=some n→ts[i]?=some t→isT (QW ks) t n.kd=true∧lv t≤40∧KidT ks (sg ns) i ts 0 n t
theorem Trk.mono {K:PySem.W.Frag} {H H':Hp} {ln lt:Addr} {ks:List KdT} {ns:List Nd} {us:List V} {ts:List (Tree Str)} (g:Mo K H H') (h:Trk K H ln lt ks ns us ts):Trk K H' ln lt ks ns us ts:=⟨⟨g.l _ _ h.n.l,fun i n e=>g.l _ _ (h.n.a i n e),fun i n e=>g.l _ _ (h.n.c i n e)⟩,g.l _ _ h.t,h.a.mono g.t,h.len,h.ok⟩
def Fil (K:PySem.W.Frag) (H:Hp) (T:Tu) (kvs:List (Key × V)) (kd:Str) (t:Tree Str) (b:Nat):Prop:=∀ (m:Nat) md,m < b→T.ms[m]?=some md→md.1=kd→∃ v,valV kvs (Sum.inl (m:Int):Key)=some v∧RP K H v (Zl opP (0,0) T.ks T.ms t (m:Int))
theorem Fil.mono {K:PySem.W.Frag} {H H':Hp} {T:Tu} {kvs:List (Key × V)} {kd:Str} {t:Tree Str} {b:Nat} (g:Mo K H H') (h:Fil K H T kvs kd t b):Fil K H' T kvs kd t b:=fun m md hm e1 e2=>by
  obtain ⟨v,h1,h2⟩:=h m md hm e1 e2
  exact ⟨v,h1,Ua _ _ _ _ g.t h2⟩
abbrev EsL:=List (Addr × List (Key × V))
structure Tbs (H0 H:Hp) (ld:Addr) (es:EsL):Prop where
  l:H ld=some (.lst (es.map fun e=>V.ref e.1))
  inj:∀ (i j:Nat) a b,es[i]?=some a→es[j]?=some b→a.1=b.1→i=j
  fr:∀ (i:Nat) e,es[i]?=some e→H0 e.1=none
  at':∀ (i:Nat) e,es[i]?=some e→H e.1=some (.dK e.2)
theorem Tbs.same {H0 H H':Hp} {l:Addr} {es:EsL} (g:Same H H') (h:Tbs H0 H l es):Tbs H0 H' l es:=⟨g _ _ h.l,h.inj,h.fr,fun i e he=>g _ _ (h.at' i e he)⟩
theorem Tbs.put {H0 H:Hp} {l:Addr} {es:EsL} (h:Tbs H0 H l es) {i:Nat} {e:Addr × List (Key × V)} (he:es[i]?=some e) (kvs:List (Key × V)):Tbs H0 (upd H e.1 (.dK kvs)) l (es.set i (e.1,kvs)):=by
  have hd:=h.at' i e he
  have hi:i < es.length:=(List.getElem?_eq_some_iff.mp he).1
  have emap:(es.set i (e.1,kvs)).map (fun e=>V.ref e.1)=es.map fun e=>V.ref e.1:=by
    apply List.ext_getElem?
    intro j
    rw [List.getElem?_map,List.getElem?_map,List.getElem?_set]
    by_cases z:i=j
    · subst z
      rw [if_pos rfl,if_pos hi,he];rfl
    · rw [if_neg z]
  refine ⟨?_,fun a b x y hx hy z=>?_,fun j x hx=>?_,fun j x hx=>?_⟩
  · rw [emap,Qg (QK h.l hd (by intro z;cases z))];exact h.l
  · rcases Zp hx with ⟨rfl,rfl⟩ | ⟨_,hx'⟩ <;> rcases Zp hy with ⟨rfl,rfl⟩ | ⟨_,hy'⟩
    · rfl
    · exact h.inj _ _ _ _ he hy' z
    · exact h.inj _ _ _ _ hx' he z
    · exact h.inj _ _ _ _ hx' hy' z
  · rcases Zp hx with ⟨rfl,rfl⟩ | ⟨_,hx⟩
    · exact h.fr _ e he
    · exact h.fr _ _ hx
  · rcases Zp hx with ⟨rfl,rfl⟩ | ⟨nj,hx⟩
    · exact Qb
    · rw [Qg (fun z=>nj (h.inj _ _ _ _ hx he z))]
      exact h.at' _ _ hx
theorem LD (kvs:List (Key × V)) (k:Key) (v:V):(putK kvs k v).length≤kvs.length + 1:=by
  unfold putK
  split
  · rw [List.length_map];omega
  · simp
structure Whl (K:PySem.W.Frag) (H:Hp) (T:Tu) (es:EsL) (ns:List Nd) (ts:List (Tree Str)) (k:Nat):Prop where
  len:es.length=ns.length
  lo:∀ (j:Nat) e,j < k→es[j]?=some e→e.2=[]
  hi:∀ (j:Nat) e n t,k≤j→es[j]?=some e→ns[j]?=some n→ts[j]?=some t→Fil K H T e.2 n.kd t T.ms.length
theorem WQ {K:PySem.W.Frag} {H H0:Hp} {T:Tu} (ok:TuOk T) {ns:List Nd} {ts:List (Tree Str)} {es:EsL} {l:Addr} {k:Nat} {n:Nd} {t:Tree Str} {m:Nat} {md:Md} (hB:Tbs H0 H l es) (hlen:es.length=ns.length) (htl:ts.length=ns.length) (hi:∀ (j:Nat) e n t,k < j→es[j]?=some e→ns[j]?=some n→ts[j]?=some t→Fil K H T e.2 n.kd t T.ms.length) (his:isT (QW T.ks) t n.kd=true) (hK:KidT T.ks (sg ns) k ts 0 n t) (hm:T.ms[m]?=some md) (ek:md.1=n.kd) :
    ∃ u,ruleK T.ks md (nmT t)=some u∧u ∈ md.2∧BelAt (RP K) H (n.ch.map fun c=>(es[c]?).elim 0 (·.1)) (cvT opP (0,0) T t) (cls u):=by
  obtain ⟨hbl,hkid,ss,hss,hkk⟩:=hK
  have hsl:ss.length=t.bs.length:=by
    obtain ⟨ss',z1,z2,_⟩:=XR his
    rw [hss] at z1
    cases z1
    exact z2
  rw [← ek] at hss
  obtain ⟨u,h1,h2,h3⟩:=JW ok (List.mem_of_getElem? hm) hss
  refine ⟨u,h1,h3,fun c hc=>?_⟩
  have hf:YX (mks T.ms) ss c=true:=by
    unfold ZV at h2
    exact List.all_eq_true.mp h2 c hc
  obtain ⟨m',b⟩:=c
  obtain ⟨m0,m1,b0,b1,e⟩:=Y7 hf
  refine ⟨b0,?_⟩
  have ess:ss[b.toNat]?=some ss[b.toNat]:=List.getElem?_eq_getElem (by omega)
  generalize ss[b.toNat]'(by omega)=s at ess
  rw [ess] at e
  obtain ⟨md',hmd',es'⟩ : ∃ md',T.ms[m'.toNat]?=some md'∧md'.1=s:=by
    unfold mks at e
    rw [List.getElem?_map] at e
    cases h:T.ms[m'.toNat]? with
    | none=>rw [h] at e;cases e
    | some x=>rw [h] at e;exact ⟨x,rfl,Option.some.inj e⟩
  have hchb:b.toNat < n.ch.length:=by omega
  have hcc:n.ch[b.toNat]?=some n.ch[b.toNat]:=List.getElem?_eq_getElem hchb
  generalize n.ch[b.toNat]=cc at hcc
  obtain ⟨kk,ll,hsg,hsk⟩:=hkk _ _ hcc
  have htb:t.bs[b.toNat]?=some t.bs[b.toNat]:=List.getElem?_eq_getElem (by omega)
  generalize t.bs[b.toNat]'(by omega)=bt at htb
  obtain ⟨hkc,htc⟩:=hkid _ _ _ htb hcc
  rw [Nat.sub_zero] at htc
  obtain ⟨n',hn',ek'⟩ : ∃ n',ns[cc]?=some n'∧n'.kd=kk:=by
    rw [List.getElem?_map] at hsg
    cases h:ns[cc]? with
    | none=>rw [h] at hsg;cases hsg
    | some x=>rw [h] at hsg;cases hsg;exact ⟨x,rfl,rfl⟩
  have hcl:cc < es.length:=by rw [hlen];exact (List.getElem?_eq_some_iff.mp hn').1
  have hec:es[cc]?=some es[cc]:=List.getElem?_eq_getElem hcl
  generalize es[cc]=ec at hec
  have eks:s=kk:=Option.some.inj (ess.symm.trans hsk)
  obtain ⟨v,z1,z2⟩:=hi cc ec n' bt hkc hec hn' htc m'.toNat md' (List.getElem?_eq_some_iff.mp hmd').1 hmd' (by rw [es',eks,ek'])
  have em:((m'.toNat:Nat):Int)=m':=by omega
  rw [em] at z1 z2
  refine ⟨ec.1,ec.2,v,?_,.inl (hB.at' _ _ hec),z1,?_⟩
  · rw [List.getElem?_map,hcc]
    show some ((es[cc]?).elim 0 (·.1))=some ec.1
    rw [hec];rfl
  · show RP K H v ((t.bs[b.toNat]?).elim (0,0) fun c=>Zl opP (0,0) T.ks T.ms c m')
    rw [htb]
    exact z2
def WY (K:PySem.W.Frag):Sp:=fun vs H Q _=>∃ (tu wd lm:Addr) (sv:V) (mo:List MdT) (T:Tu) (ln lt:Addr) (ns:List Nd) (us:List V) (ts:List (Tree Str)),vs=[.ref tu,.ref ln,.ref lt]∧TurnAt K H tu wd lm sv mo T∧TurnOk mo T∧TBd T∧mo.length≤10∧Trk K H ln lt T.ks ns us ts∧ns.length≤200 ∧
  ∀ (l:Addr) (H':Hp) (es:EsL),Same H H'→Tbs H H' l es→Whl K H' T es ns ts 0→Q (.ref l) H'
abbrev PD:List Str:=["_law_turning_here", "_law_nodes", "_law_trees", "_law_tables_here", "_law_k", "_law_below", "_law_mode"]
section
variable {P:Program} {w:World} {K:PySem.W.Frag} {mg:Str→Option Value} {base:Heap} {f:Addr} {fd:FuncData}
theorem UU:FnScope PD ["_law_turning_here", "_law_nodes", "_law_trees"] (defScope Gz):=⟨rfl,rfl,rfl,by decide +kernel,rfl,by decide +kernel,by decide +kernel⟩
theorem MP (F:Fun K "_law_tables" "_law_tables" Gz f fd) (G:Gm mg) (RM:Fn P w K mg base 9 "_law_measure" ["_law_term_here", "_law_below"] (Z5 K 8)) (RL:Fn P w K mg base 1 "_law_rule" ["_law_turning_here", "_law_mode", "_law_name"] (YC K)):FnOk P w K mg base CX0 10 f fd ["_law_turning_here", "_law_nodes", "_law_trees"] (WY K):=by
  refine F.ok UU (fun vs H Q E h=>?_) (fun cdv A outer s H vs Q E hr h=>?_)
  · obtain ⟨tu,wd,lm,sv,mo,T,ln,lt,ns,us,ts,rfl,_⟩:=h
    rfl
  obtain ⟨tu,wd,lm,sv,mo,T,ln,lt,ns,us,ts,rfl,hT,hO,hTB,hm10,hR,hnl,q⟩:=h
  refine ⟨_,(Qe (Qn (i:=3) UU.nd rfl (Or.inr rfl) (QI (CompG.many (xs:=["_law_node"]) (caps:=[]) (cap:=[]) (cs:=[]) rfl rfl (by decide +kernel) (by decide +kernel) (by decide +kernel) (by decide +kernel) (by decide +kernel) (by decide +kernel) rfl rfl rfl) rfl (QY (pv 1)) (Zk (CompG.many (xs:=["_law_node"]) (caps:=[]) (cap:=[]) (cs:=[]) rfl rfl (by decide +kernel) (by decide +kernel) (by decide +kernel) (by decide +kernel) (by decide +kernel) (by decide +kernel) rfl rfl rfl)) (fun _ _ _ _=>QX) (fun _ _ _ _=>Wk)))
    (Qe (QU PassesOwn.never rfl (LA rfl G.rev (Qa (QB JG rfl G.rng PyProof.Rows.boot_range (Qa (Qq Qo rfl G.len PySem.boot_len (Qa (pv 1) Qc)) Qc)) Qc)) (Qu (i:=4) UU.nd rfl (Or.inl rfl)) (Qe (ZC (i:=5) (CompG.many (xs:=["_law_j"]) (caps:=["_law_tables_here"]) (cap:=[3]) (cs:=[_]) rfl rfl (by decide +kernel) (by decide +kernel) (by decide +kernel) (by decide +kernel) (by decide +kernel) (by decide +kernel) rfl rfl rfl) rfl (QY (Qj Qk (Qj Qk (pv 1) (pv 4) (fun _ _=>rfl)) Qd (fun _ _=>rfl))) (Zk (CompG.many (xs:=["_law_j"]) (caps:=["_law_tables_here"]) (cap:=[3]) (cs:=[_]) rfl rfl (by decide +kernel) (by decide +kernel) (by decide +kernel) (by decide +kernel) (by decide +kernel) (by decide +kernel) rfl rfl rfl)) (fun _ _ _ _=>QX) (fun _ _ _ _=>Qj (r:=Jn K) Qk (pv 1) (pv 0) (fun _ _=>rfl)) UU.nd rfl rfl)
    (Qi (QU PassesOwn.never rfl (QO rfl G.rng (Qa (Qq Qo rfl G.len PySem.boot_len (Qa (Qj Ql (pv 0) Qd (fun _ _=>rfl)) Qc)) Qc)) (Qu (i:=6) UU.nd rfl (Or.inl rfl)) (Qi
        (QT (Qy ZK (Qj Ql (Qj Qk (Qj Ql (pv 0) Qd (fun _ _=>rfl)) (pv 6) (fun _ _=>rfl)) Qd (fun _ _=>rfl)) (Qj Qk (Qj Qk (pv 1) (pv 4) (fun _ _=>rfl)) Qd (fun _ _=>rfl)) (QA _)) (Qi
          (Vf (ZL hr) (Qj Qk (pv 3) (pv 4) (fun _ _=>rfl)) (pv 6) (Qr RM hr (Qa (Qr RL hr (Qa (pv 0) (Qa (pv 6) (Qa (Qj Ql (Qj Qk (pv 2) (pv 4) (fun _ _=>rfl)) Qd (fun _ _=>rfl)) Qc)))) (Qa (pv 5) Qc))) rfl)) Qx))))))
    (Qi (Qp (pv 3))))),?_⟩
  have hNl:(NR ns).length=ns.length:=List.length_map ..
  have hol:(mo.map fun m=>V.ref m.1).length=mo.length:=List.length_map ..
  have hmol:mo.length=T.ms.length:=by rw [← hO.me];simp [mds]
  refine ⟨_,rfl,ln,rfl,⟨_,hR.n.l⟩,fun lx hlx=>?_⟩
  refine ZT (K:=K) (xs:=NR ns) (cs:=[]) (tt:=fun _ H Q=>Q true H) (te:=Wu) (fun i ys H'=>∃ as:List Addr,ys=as.map V.ref∧H' lx=some (.lst ys)∧Same H H'∧as.length=i∧(∀ (j:Nat) x,as[j]?=some x→H' x=some (.dK [])∧H x=none)∧∀ (i j:Nat) x y,as[i]?=some x→as[j]?=some y→x=y→i=j)
    ⟨[],rfl,Qb,Qf hlx _,rfl,fun j x h=>by simp at h,fun i j x y h=>by simp at h⟩ ?_ ?_ ?_
  · rintro i ys H' _ ⟨_,_,_,g,_⟩
    exact g.seq hR.n.l
  · rintro i x ys H' hi hx ⟨as,rfl,hya,g,hal,has,hin⟩
    refine Q7 fun p hp=>?_
    have g2:=Qf hp (.dK [])
    have hya2:=g2 _ _ hya
    have hpa:p≠lx:=fun z=>by rw [z,hya] at hp;cases hp
    refine Qw (ys:=as.map V.ref) hi hya2 (by rw [List.length_map];omega) ⟨as ++ [p],by simp,Qb,fun x u e=>?_,by simp [hal],fun j x hx=>?_,fun i j x y hx hy=>?_⟩
    · rw [Qg (Qh e hlx)];exact g2 _ _ (g _ _ e)
    · rw [List.getElem?_append] at hx
      split at hx
      · obtain ⟨e1,e2⟩:=has j x hx
        refine ⟨?_,e2⟩
        rw [Qg (QK (g2 _ _ e1) hya2 (by intro z;cases z))];exact g2 _ _ e1
      · have e:x=p:=by
          have:=List.mem_of_getElem? hx
          simpa using this
        subst e
        exact ⟨by rw [Qg hpa];exact Qb,g.free hp⟩
    · have key:∀ (i:Nat) x,(as ++ [p])[i]?=some x→(i < as.length∧as[i]?=some x)∨(i=as.length∧x=p):=fun i x hx=>by
        rw [List.getElem?_append] at hx
        split at hx
        · exact .inl ⟨by assumption,hx⟩
        · have e:x=p:=by
            have:=List.mem_of_getElem? hx
            simpa using this
          have:=(List.getElem?_eq_some_iff.mp hx).1
          simp only [List.length_singleton] at this
          exact .inr ⟨by omega,e⟩
      intro z
      rcases key i x hx with ⟨_,hx⟩ | ⟨ei,ex⟩ <;> rcases key j y hy with ⟨_,hy⟩ | ⟨ej,ey⟩
      · exact hin _ _ _ _ hx hy z
      · have:=(has _ _ hx).1
        rw [z,ey,hp] at this;cases this
      · have:=(has _ _ hy).1
        rw [← z,ex,hp] at this;cases this
      · omega
  rintro ys H1 ⟨as,rfl,hlx1,g1,hal,has,hin⟩
  rw [hNl] at hal
  have key:∀ (i:Nat) (e:Addr × List (Key × V)),(as.map fun x=>(x,([]:List (Key × V))))[i]?=some e→as[i]?=some e.1∧e.2=[]:=fun i e he=>by
    rw [List.getElem?_map] at he
    cases h:as[i]? with
    | none=>rw [h] at he;cases he
    | some x=>rw [h] at he;cases he;exact ⟨rfl,rfl⟩
  have hB1:Tbs H H1 lx (as.map fun x=>(x,([]:List (Key × V)))):=⟨by rw [List.map_map];exact hlx1,fun i j x y hx hy z=>hin _ _ _ _ (key _ _ hx).1 (key _ _ hy).1 z,fun i e he=>(has _ _ (key _ _ he).1).2,fun i e he=>by rw [(key _ _ he).2];exact (has _ _ (key _ _ he).1).1⟩
  have hW1:Whl K H1 T (as.map fun x=>(x,([]:List (Key × V)))) ns ts ns.length:=⟨by rw [List.length_map];exact hal,fun j e _ he=>(key _ _ he).2,fun j e n t hj _ hn=>by
    have:=(List.getElem?_eq_some_iff.mp hn).1
    omega⟩
  refine ⟨_,rfl,ln,_,rfl,.inl (g1.seq hR.n.l),_,rfl,by omega,by omega,fun pr hpr=>⟨pr,_,rfl,Qb,by omega,by omega,?_⟩⟩
  have k2:=Qf hpr (.rng 0 (((NR ns).length:Nat):Int))
  have hB2:=hB1.same k2
  have g2:=g1.trans k2
  have hW2:Whl K (upd H1 pr (.rng 0 (((NR ns).length:Nat):Int))) T (as.map fun x=>(x,([]:List (Key × V)))) ns ts ns.length:=⟨hW1.len,hW1.lo,fun j e n t hj _ hn=>by
    have:=(List.getElem?_eq_some_iff.mp hn).1
    omega⟩
  generalize upd H1 pr (.rng 0 (((NR ns).length:Nat):Int))=H2 at hB2 g2 hW2
  rw [hNl,Int.toNat_natCast]
  refine UK (hi:=((ns.length:Nat):Int) - 1) (n:=ns.length) (fun i σ H'=>∃ (c4 c5 c6:Option V) (es:EsL),σ=[some (.ref tu),some (.ref ln),some (.ref lt),some (.ref lx),c4,c5,c6]∧Same H H'∧Tbs H H' lx es∧Whl K H' T es ns ts (ns.length - i))
    ⟨none,none,none,_,rfl,g2,hB2,by rw [Nat.sub_zero];exact hW2⟩ ?_ ?_
  · rintro i σ H3 hi ⟨c4,c5,c6,es,rfl,g3,hB3,hW3⟩
    obtain ⟨k,hk⟩ : ∃ k,ns.length - i=k + 1:=⟨ns.length - i - 1,by omega⟩
    have ek:((ns.length:Nat):Int) - 1 - (i:Int)=((k:Nat):Int):=by omega
    rw [ek]
    rw [hk] at hW3
    have ek2:ns.length - (i + 1)=k:=by omega
    rw [ek2]
    have hkl:k < ns.length:=by omega
    have hn:ns[k]?=some ns[k]:=List.getElem?_eq_getElem hkl
    generalize ns[k]=n at hn
    obtain ⟨t,ht⟩ : ∃ t,ts[k]?=some t:=⟨_,List.getElem?_eq_getElem (by rw [hR.len];exact hkl)⟩
    obtain ⟨tv,htv,htr⟩:=hR.a.get ht
    obtain ⟨his,hlv,hkid⟩:=hR.ok k n t hn ht
    obtain ⟨e0,he0⟩ : ∃ e0,es[k]?=some e0:=⟨_,List.getElem?_eq_getElem (by rw [hW3.len];exact hkl)⟩
    have hR3:=hR.mono (Mo.of g3)
    refine ⟨_,rfl,_,rfl,ln,_,_,_,rfl,rfl,hR3.n.l,Zz hn,n.a,_,4,_,rfl,rfl,hR3.n.a _ _ hn,rfl,n.cl,rfl,⟨_,hR3.n.c _ _ hn⟩,fun acc hacc=>?_⟩
    refine ZT (K:=K) (xs:=NI n.ch) (cs:=[some (.ref lx)]) (tt:=fun _ H Q=>Q true H) (te:=tOp (Jn K) (Zf 1) (Zf 0)) (fun j ys H'=>ys=(n.ch.take j).map (fun c=>V.ref ((es[c]?).elim 0 (·.1)))∧H' acc=some (.lst ys)∧Same H3 H')
      ⟨rfl,Qb,Qf hacc _⟩ ?_ ?_ ?_
    · rintro j ys H' _ ⟨_,_,g⟩
      exact g.seq (hR3.n.c _ _ hn)
    · rintro j x ys H' hj hx ⟨rfl,hya,g⟩
      have hjc:j < n.ch.length:=by simpa using hj
      have hcj:n.ch[j]?=some n.ch[j]:=List.getElem?_eq_getElem hjc
      obtain rfl:x=.int ((n.ch[j]:Nat):Int):=by
        rw [List.getElem?_map,hcj] at hx
        exact (Option.some.inj hx).symm
      generalize n.ch[j]=c at hcj
      have hkid':=hkid
      obtain ⟨_,_,ss,_,hkk⟩:=hkid'
      obtain ⟨kk,ll,hsg,_⟩:=hkk j c hcj
      have hce:c < es.length:=by
        rw [hW3.len]
        have:=(List.getElem?_eq_some_iff.mp hsg).1
        simpa using this
      have hec:es[c]?=some es[c]:=List.getElem?_eq_getElem hce
      generalize es[c]=ec at hec
      refine Q7 ⟨_,rfl,_,rfl,lx,_,_,_,rfl,rfl,g.seq (SqL.of hB3.l),Qv (by rw [List.getElem?_map,hec];rfl),?_⟩
      refine Qw hj hya ?_ ⟨?_,Qb,fun x u e=>?_⟩
      · rw [List.length_map,List.length_take]
        have:=hkid.1
        have hbl:n.ch.length≤1000:=by
          rw [← this]
          cases htr with
          | mk _ _ z1 z2=>exact Nat.le_trans (Nat.le_of_eq z1.length.symm) z2
        omega
      · rw [List.take_add_one,hcj]
        show _=((n.ch.take j) ++ [c]).map _
        rw [List.map_append]
        simp [hec]
      · rw [Qg (Qh e hacc)];exact g _ _ e
    rintro ys H4 ⟨rfl,hacc4,g4⟩
    rw [List.take_of_length_le (by simp)] at hacc4
    have hds:(n.ch.map fun c=>V.ref ((es[c]?).elim 0 (·.1)))=(n.ch.map fun c=>(es[c]?).elim 0 (·.1)).map V.ref:=by rw [List.map_map];rfl
    rw [hds] at hacc4
    have g04:=g3.trans g4
    have hR4:=hR.mono (Mo.of g04)
    have hT4:=hT.same g04
    refine ⟨_,rfl,tu,_,2,_,rfl,rfl,hT4.tu,rfl,lm,_,rfl,.inl hT4.m.1,_,rfl,by rw [hol];omega,by rw [hol];omega,?_⟩
    have en:(((mo.map fun m=>V.ref m.1).length:Nat):Int).toNat=mo.length:=by rw [hol];omega
    rw [en]
    refine Zs (lo:=0) (n:=mo.length) (fun j σ H'=>∃ (c6:Option V) (es':EsL) (e':Addr × List (Key × V)),σ=[some (.ref tu),some (.ref ln),some (.ref lt),some (.ref lx),some (.int (k:Int)),some (.ref acc),c6]∧Same H H'∧Tbs H H' lx es'∧es'.length=ns.length∧SqL K H' acc ((n.ch.map fun c=>(es[c]?).elim 0 (·.1)).map V.ref) ∧
        (∀ (j:Nat),j≠k→es'[j]?=es[j]?)∧es'[k]?=some e'∧e'.1=e0.1∧e'.2.length≤j∧Fil K H' T e'.2 n.kd t j∧(∀ (j:Nat) e n t,k < j→es[j]?=some e→ns[j]?=some n→ts[j]?=some t→Fil K H' T e.2 n.kd t T.ms.length))
      ⟨c6,es,e0,rfl,g04,hB3.same g4,hW3.len,SqL.of hacc4,fun _ _=>rfl,he0,rfl,by rw [hW3.lo k e0 (by omega) he0];exact Nat.zero_le _,fun m md hm=>absurd hm (by omega),fun j e n t hj h1 h2 h3=>(hW3.hi j e n t (by omega) h1 h2 h3).mono (Mo.of g4)⟩ ?_ ?_
    · rintro j σ H5 hj ⟨c6,es',e',rfl,g5,hB5,hl5,hacc5,hoth,hek,ee,hel,hfil,hhi⟩
      have e00:(0:Int)+(j:Int)=(j:Int):=by omega
      rw [e00]
      have hmj:mo[j]?=some mo[j]:=List.getElem?_eq_getElem hj
      generalize mo[j]=m at hmj
      have hmm:=List.mem_of_getElem? hmj
      have hatm:atI (mo.map fun m=>V.ref m.1) (j:Int)=some (.ref m.1):=Qv (by rw [List.getElem?_map,hmj];rfl)
      have hT5:=hT.same g5
      have hR5:=hR.mono (Mo.of g5)
      have hTm:T.ms[j]?=some m.md:=by rw [← hO.me,List.getElem?_map,hmj];rfl
      refine ⟨_,rfl,tu,_,2,_,rfl,rfl,hT5.tu,rfl,_,rfl,lm,_,_,_,rfl,rfl,hT5.m.1,hatm,m.1,_,0,_,rfl,rfl,(hT5.m.2 m hmm).1,rfl,_,rfl,_,rfl,ln,_,_,_,rfl,rfl,hR5.n.l,Zz hn,n.a,_,0,_,rfl,rfl,hR5.n.a _ _ hn,rfl,rfl,_,rfl,?_⟩
      by_cases he:m.2.1=n.kd
      · refine Xm (by rw [he]) ?_
        have htr5:=htr.mono (Mo.of (K:=K) g5).t
        have hus:atI us (k:Int)=some tv:=Qv htv
        obtain ⟨u,hu1,hu2,hbel⟩:=WQ (K:=K) (H:=H5) (H0:=H) (k:=k) (es:=es') hO.ok hB5 hl5 hR.len (fun j e n t hj h1 h2 h3=>hhi j e n t hj (by rw [← hoth j (by omega)];exact h1) h2 h3) his hkid hTm he
        have emap:(n.ch.map fun c=>(es'[c]?).elim 0 (·.1))=n.ch.map fun c=>(es[c]?).elim 0 (·.1):=by
          refine List.map_congr_left fun c _=>?_
          by_cases z:c=k
          · rw [z,hek,he0];exact ee
          · rw [hoth c z]
        rw [emap] at hbel
        obtain ⟨mt,hmt,emd,hml⟩:=hO.get hTm
        obtain rfl:mt=m:=Option.some.inj (hmt.symm.trans hmj)
        obtain ⟨hlu,hsu⟩:=hTB _ (List.mem_of_getElem? hTm) u hu2
        cases htr5 with
        | @mk ta tb tus tts tname tmark k1 k2 k3 k4 =>
        refine ⟨_,rfl,_,rfl,_,rfl,_,rfl,lt,_,_,_,rfl,rfl,hR5.t,hus,ta,_,0,_,rfl,rfl,k1,rfl,?_⟩
        refine ⟨tu,wd,lm,sv,j,tname,T.ks,mo,mt,rfl,hT5.tu,hT5.w,hO.wo,hT5.m,hmj,hml,hO.ne hmj,fun v' H6 g6 hv'=>?_⟩
        have hv6:TmV K H6 v' u:=by
          have hu1':ruleK T.ks mt.md tname=some u:=hu1
          rw [hu1'] at hv'
          exact hv'
        refine ⟨_,rfl,v',u,acc,_,_,rfl,hv6,hlu,g6.seq hacc5,hbel.same Ua g6,fun x H7 g7 hx=>?_⟩
        have g57:=g6.trans g7
        have hB7:=hB5.same g57
        have hd7:=hB7.at' _ _ hek
        refine ⟨_,rfl,_,rfl,lx,_,_,_,rfl,rfl,SqL.of hB7.l,Qv (by rw [List.getElem?_map,hek];rfl),_,rfl,e'.1,_,rfl,.inl ⟨e'.2,.inl (j:Int),hd7,rfl,by rw [QH];omega,rfl⟩,?_⟩
        have gx:SameX e'.1 H7 (upd H7 e'.1 (.dK (putK e'.2 (Sum.inl (j:Int)) x))):=SameX.upd
        have gm:Mo K H7 (upd H7 e'.1 (.dK (putK e'.2 (Sum.inl (j:Int)) x))):=Mo.dk hd7 gx
        have gm5:Mo K H5 (upd H7 e'.1 (.dK (putK e'.2 (Sum.inl (j:Int)) x))):=(Mo.of g57).trans gm
        have hfe:=hB5.fr _ _ hek
        have hkl':k < es'.length:=by rw [hl5];exact hkl
        have hxv:RP K H7 x (Zl opP (0,0) T.ks T.ms (.node tname tmark tts) (j:Int)):=by
          rw [Y3 (T:=T) (m:=(j:Int)) (by rw [Int.toNat_natCast];exact hTm) hu1]
          exact hx
        refine ⟨_,es'.set k (e'.1,putK e'.2 (Sum.inl (j:Int)) x),(e'.1,putK e'.2 (Sum.inl (j:Int)) x),rfl,fun y u' z=>?_,hB7.put hek _,by rw [List.length_set];exact hl5,gm5.l _ _ hacc5,fun j' hj'=>?_,by rw [List.getElem?_set,if_pos rfl,if_pos hkl'],ee,?_,fun m' md hm' e1 e2=>?_,fun j e n t hj h1 h2 h3=>(hhi j e n t hj h1 h2 h3).mono gm5⟩
        · rw [Qg (Qh z hfe)];exact g57 _ _ (g5 _ _ z)
        · rw [List.getElem?_set,if_neg (Ne.symm hj')];exact hoth j' hj'
        · have:=LD e'.2 (Sum.inl (j:Int):Key) x
          show (putK e'.2 (Sum.inl (j:Int)) x).length≤j + 1
          omega
        · show ∃ v,valV (putK e'.2 (Sum.inl (j:Int)) x) (Sum.inl (m':Int):Key)=some v∧_
          rw [LC]
          by_cases z:m'=j
          · subst z
            exact ⟨x,if_pos rfl,Ua _ _ _ _ gm.t hxv⟩
          · obtain ⟨v,z1,z2⟩:=hfil m' md (by omega) e1 e2
            refine ⟨v,?_,Ua _ _ _ _ gm5.t z2⟩
            rw [if_neg (fun zz=>z (by have:=Sum.inl.inj zz;omega))]
            exact z1
      · refine Wa (fun z=>he (V.str.inj z)) ?_
        refine ⟨_,es',e',rfl,g5,hB5,hl5,hacc5,hoth,hek,ee,by omega,fun m' md hm' e1 e2=>?_,hhi⟩
        rcases Nat.lt_or_ge m' j with z | z
        · exact hfil m' md z e1 e2
        · have ez:m'=j:=by omega
          subst ez
          rw [hTm] at e1
          cases e1
          exact absurd e2 he
    · rintro σ H5 ⟨c6,es',e',rfl,g5,hB5,hl5,hacc5,hoth,hek,ee,hel,hfil,hhi⟩
      refine ⟨_,_,_,es',rfl,g5,hB5,⟨hl5,fun j e hj h=>?_,fun j e n' t' hj h1 h2 h3=>?_⟩⟩
      · rw [hoth j (by omega)] at h
        exact hW3.lo j e (by omega) h
      · rcases Nat.lt_or_ge k j with z | z
        · rw [hoth j (by omega)] at h1
          exact hhi j e n' t' z h1 h2 h3
        · have ez:j=k:=by omega
          subst ez
          rw [hek] at h1
          cases h1
          rw [hn] at h2
          cases h2
          rw [ht] at h3
          cases h3
          rw [← hmol]
          exact hfil
  · rintro σ H3 ⟨c4,c5,c6,es,rfl,g3,hB3,hW3⟩
    rw [Nat.sub_self] at hW3
    exact ⟨_,rfl,q lx H3 es g3 hB3 hW3⟩
end
end K22
namespace K22
open PySem L2 TM TT K9 K11
theorem Na (xs:List V) (a b:Nat):cutV xs (some (a:Int)) (some (b:Int))=(xs.drop (min a xs.length)).take (min b xs.length - min a xs.length):=by
  unfold cutV
  rw [HT.sIx_nat,HT.sIx_nat]
theorem L3 (cs:List Int) (a b:Nat):∃ ds:List Int,cutV (cs.map V.int) (some (a:Int)) (some (b:Int))=ds.map V.int∧ds.length≤b - a:=by
  refine ⟨(cs.drop (min a cs.length)).take (min b cs.length - min a cs.length),?_,?_⟩
  · rw [Na,List.length_map,List.map_take,List.map_drop]
  · rw [List.length_take,List.length_drop]
    omega
theorem VE {α β:Type} (f:α→β→Bool):∀ {as:List α} {bs:List β},(∀ (j:Nat) a b,as[j]?=some a→bs[j]?=some b→f a b=true)→(List.zipWith f as bs).all id=true
  | [],_,_=>by simp
  | a :: as,[],_=>by simp
  | a :: as,b :: bs,h=>by
    simp only [List.zipWith_cons_cons,List.all_cons,id,Bool.and_eq_true]
    exact ⟨h 0 a b rfl rfl,VE f fun j a' b' h1 h2=>h (j + 1) a' b' (by simpa using h1) (by simpa using h2)⟩
theorem LV {ks:List KdT} {own:List Str} {m:MdT} (hW:WF ks) (h:MF ks own m):Zx ks own m.md=true:=by
  obtain ⟨kd,hkd,ekd⟩:=List.mem_map.mp h.kd
  obtain ⟨er,_⟩:=Jb hW.ok hkd
  have hne:(Qs ks m.2.1).length≠0:=by
    rw [← ekd,er]
    obtain ⟨r,hr,_⟩:=(hW.kf kd hkd).bare
    intro z
    rw [List.length_eq_zero_iff.mp z] at hr
    cases hr
  unfold Zx
  simp only [Bool.and_eq_true,decide_eq_true_eq]
  exact ⟨⟨hne,h.rf.1⟩,VE _ fun j r t h1 h2=>(h.rf.2 j r t h1 h2).fit⟩
theorem OT {ks:List KdT} {own:List Str} {m:MdT} (h:MF ks own m):∀ t ∈ m.2.2.2.2,MOk 6 t:=fun t ht=>by
  obtain ⟨j,hj,e⟩:=List.getElem_of_mem ht
  have hl:=h.rf.1
  exact (h.rf.2 j _ t (List.getElem?_eq_getElem (by omega)) (by rw [List.getElem?_eq_getElem hj,e])).mok
def ZP (p:Str × List PNx):PyData:=.tuple [.str p.1,.list (p.2.map ZH)]
theorem XZ {K:PySem.W.Frag} {H:Hp}:∀ {ks:List KdT},(∀ k ∈ ks,SqT K H k.1 [.str k.2.1,.ref k.2.2.1]∧RowsL K H k.2.2.1 k.2.2.2)→RdAll K H (ks.map fun k=>V.ref k.1) ((ks.map Zd).map ZP)
  | [],_=>.nil
  | k :: r,h=>.cons (.tup (h k List.mem_cons_self).1 (.cons (.str _) (.cons (.lst (h k List.mem_cons_self).2.1 (JY (h k List.mem_cons_self).2.2)) .nil))) (XZ fun u hu=>h u (List.mem_cons_of_mem _ hu))
theorem JJ:∀ {ks:List KdT},(∀ k ∈ ks,PyData.strOk k.2.1=true)→(∀ k ∈ ks,RowsOk k.2.2.2)→PyData.canLayAll0 ((ks.map Zd).map ZP)=true
  | [],_,_=>by simp [PyData.canLayAll0]
  | k :: r,h1,h2=>by
    have h3:PyData.canLayAll0 (k.2.2.2.map ZH)=true:=UI (h2 k List.mem_cons_self).nm (h2 k List.mem_cons_self).kn
    simp only [List.map_cons,PyData.canLayAll0,ZP,Zd,PyData.canLay0,h1 k List.mem_cons_self,h3,Bool.and_self,Bool.true_and]
    exact JJ (fun u hu=>h1 u (List.mem_cons_of_mem _ hu)) fun u hu=>h2 u (List.mem_cons_of_mem _ hu)
theorem UB:∀ rs:List PNx,PyData.depthAll (rs.map ZH)≤2
  | []=>by simp [PyData.depthAll]
  | r :: rs=>by
    have:=UB rs
    simp only [List.map_cons,PyData.depthAll,ZH,PyData.depth,YA]
    omega
theorem Ub:∀ ks:List (Str × List PNx),PyData.depthAll (ks.map ZP)≤4
  | []=>by simp [PyData.depthAll]
  | k :: r=>by
    have h1:=Ub r
    have h2:=UB k.2
    simp only [List.map_cons,PyData.depthAll,ZP,PyData.depth]
    omega
def mdd (m:Md):PyData:=.tuple [.str m.1,.list (Ul m.2)]
theorem X9 {K:PySem.W.Frag} {H:Hp}:∀ {ms:List MdT},(∀ m ∈ ms,MdAt K H m)→RdAll K H (ms.map fun m=>V.ref m.1) ((mds ms).map mdd)
  | [],_=>.nil
  | m :: r,h=>.cons (.tup (h m List.mem_cons_self).1 (.cons (.str _) (.cons (.lst (h m List.mem_cons_self).2.1 (h m List.mem_cons_self).2.2.rd) .nil))) (X9 fun x hx=>h x (List.mem_cons_of_mem _ hx))
theorem JC:∀ {ms:List MdT},(∀ m ∈ ms,PyData.strOk m.2.1=true∧∀ t ∈ m.2.2.2.2,MOk 6 t)→PyData.canLayAll0 ((mds ms).map mdd)=true∧PyData.depthAll ((mds ms).map mdd)≤12
  | [],_=>by simp [PyData.canLayAll0,PyData.depthAll]
  | m :: r,h=>by
    obtain ⟨h1,h2⟩:=JC fun x hx=>h x (List.mem_cons_of_mem _ hx)
    obtain ⟨h5,hm⟩:=h m List.mem_cons_self
    obtain ⟨h3,h4⟩:=Xw (d:=6) m.2.2.2.2 hm
    have h5':PyData.strOk m.md.1=true:=h5
    have h3':PyData.canLayAll0 (Ul m.md.2)=true:=h3
    have h4':PyData.depthAll (Ul m.md.2)≤6:=h4
    constructor
    · simp only [List.map_cons,PyData.canLayAll0,mdd,PyData.canLay0,h5',h3',h1,Bool.and_self]
    · have e:(mds (m :: r)).map mdd=mdd m.md :: (mds r).map mdd:=rfl
      rw [e]
      have e2:PyData.depthAll (mdd m.md :: (mds r).map mdd)=max (mdd m.md).depth (PyData.depthAll ((mds r).map mdd)):=by simp only [PyData.depthAll]
      have e3:(mdd m.md).depth≤11:=by simp only [mdd,PyData.depth,PyData.depthAll];omega
      rw [e2]
      omega
abbrev UR (ks:List KdT) (t:Tm) (ms:List MdT):PyData:=.tuple [.list ((ks.map Zd).map ZP),tmd t,.list ((mds ms).map mdd)]
theorem VB {K:PySem.W.Frag} {H:Hp} {tu wd lm:Addr} {sv:V} {ms:List MdT} {T:Tu} (h:TurnAt K H tu wd lm sv ms T):RdV K H (.ref tu) (UR T.ks T.start ms) :=
  .tup h.tu (.cons (.lst h.w.1 (XZ h.w.2)) (.cons h.s.rd (.cons (.lst h.m.1 (X9 h.m.2)) .nil)))
theorem LW {ks:List KdT} {t:Tm} {ms:List MdT} (hW:WF ks) (ht:MOk 6 t) (hm:∀ m ∈ ms,PyData.strOk m.2.1=true∧∀ t ∈ m.2.2.2.2,MOk 6 t):(UR ks t ms).canLay0=true∧(UR ks t ms).depth≤20:=by
  have a1:=JJ hW.nm fun k hk=>(hW.kf k hk).ok
  have a2:=Ub (ks.map Zd)
  obtain ⟨b1,b2⟩:=ht
  obtain ⟨c1,c2⟩:=JC hm
  constructor
  · simp only [PyData.canLay0,PyData.canLayAll0,a1,b1,c1,Bool.and_self]
  · simp only [PyData.depth,PyData.depthAll]
    omega
mutual
theorem L9 {α:Type} {op:Lab→Int→List α→α} {d:α} {ks hs:List KdT} {ms:List Md} (e:ruleK hs=ruleK ks):∀ t:Tree Str,Zl op d hs ms t=Zl op d ks ms t
  | .node n mk bs=>by
    funext m
    simp only [Zl,e,Vh e bs]
theorem Vh {α:Type} {op:Lab→Int→List α→α} {d:α} {ks hs:List KdT} {ms:List Md} (e:ruleK hs=ruleK ks):∀ ts:List (Tree Str),Za op d hs ms ts=Za op d ks ms ts
  | []=>by simp only [Za]
  | t :: r=>by simp only [Za,L9 e t,Vh e r]
end
theorem Xz {α:Type} {op:Lab→Int→List α→α} {d:α} {T T2:Tu} {u:Tm} {r:Tree Str} (e:ruleK T2.ks=ruleK T.ks) (em:T2.ms=T.ms):valT op d T2 u r=valT op d T u r:=by
  unfold valT
  simp only [em,L9 e]
theorem Oq {ks:List KdT} {own:List Str} {ms:List MdT} (h:∀ m ∈ ms,MF ks own m):∀ md ∈ mds ms,∀ u ∈ md.2,lv u≤8∧sz u≤100:=fun md hmd u hu=>by
  obtain ⟨m,hm,rfl⟩:=List.mem_map.mp hmd
  have hf:=(h m hm).rf
  obtain ⟨j,hj,e⟩:=List.getElem_of_mem hu
  have hj':j < m.2.2.2.2.length:=hj
  have hl:=hf.1
  have:=hf.2 j _ u (List.getElem?_eq_getElem (by omega)) ((List.getElem?_eq_getElem hj).trans (congrArg some e))
  have h1:=this.lv
  have h2:=this.sz
  exact ⟨by omega,Nat.le_trans h2 (by decide)⟩
theorem Ue {K:PySem.W.Frag} {H H0:Hp} {T:Tu} {es:EsL} {ns:List Nd} {ts:List (Tree Str)} {l:Addr} {n0:Nd} {t0:Tree Str} {e0:Addr × List (Key × V)} (hB:Tbs H0 H l es) (hW:Whl K H T es ns ts 0) (he:es[0]?=some e0) (hn:ns[0]?=some n0) (ht:ts[0]?=some t0) (hk:n0.kd=T.k0) (hf:ZV (mks T.ms) [T.k0] T.start=true):BelAt (RP K) H [e0.1] (cvT opP (0,0) T (upT t0)) (cls T.start):=fun c hc=>by
  have hf1:YX (mks T.ms) [T.k0] c=true:=by
    unfold ZV at hf
    exact List.all_eq_true.mp hf c hc
  obtain ⟨m,b⟩:=c
  obtain ⟨m0,m1,b0,b1,e⟩:=Y7 hf1
  have eb:b=0:=by
    simp only [List.length_singleton] at b1
    omega
  subst eb
  obtain ⟨md,hmd,ek⟩ : ∃ md,T.ms[m.toNat]?=some md∧md.1=T.k0:=by
    unfold mks at e
    rw [List.getElem?_map] at e
    cases h:T.ms[m.toNat]? with
    | none=>rw [h] at e;cases e
    | some x=>rw [h] at e;exact ⟨x,rfl,Option.some.inj e⟩
  obtain ⟨v,z1,z2⟩:=hW.hi 0 e0 n0 t0 (Nat.le_refl _) he hn ht m.toNat md (List.getElem?_eq_some_iff.mp hmd).1 hmd (by rw [ek,hk])
  have em:((m.toNat:Nat):Int)=m:=by omega
  rw [em] at z1 z2
  exact ⟨Int.le_refl _,e0.1,e0.2,v,rfl,.inl (hB.at' _ _ he),z1,z2⟩
end K22
namespace L2
open PySem PySem.Spec PyProof.Rows PySem.W
section
variable {X:Cx}
end
end L2
namespace L2
open PySem PySem.Spec PyProof.Rows
theorem Mq {K:PySem.W.Frag} {a b:Addr} {xs ys:List V} {g:TG} {tb:TS} {D:Ends} {σ:St} {H:Hp} (hlen:xs.length=ys.length) (Pv:Nat→St→Hp→Prop) (h0:Pv 0 σ H) (hl:∀ i σ H,i≤xs.length→Pv i σ H→SqT K H a xs∧SqT K H b ys)
    (hs:∀ i u v p σ H,xs[i]?=some u→ys[i]?=some v→H p=none→Pv i σ H→g (.ref p) σ (upd H p (.tup [u,v])) fun σ2 H2=>tb { D with nx:=Pv (i + 1),ct:=Pv (i + 1),bk:=D.nx } σ2 H2) (hd:∀ σ H,Pv xs.length σ H→D.nx σ H) :
    ∃ W:Nat→Nat→St→Hp→Prop,(∃ m,W 0 m σ H)∧∀ i m σ H,W i m σ H →
      ((Gj K a b xs ys).stop i H∧D.nx σ H)∨((Gj K a b xs ys).go i H∧∃ N:St→Hp→Prop,(∀ σ' H',N σ' H'→∃ m',m' < m∧W (i + 1) m' σ' H')∧∀ x H',(Gj K a b xs ys).yld i H x H'→g x σ H' fun σ2 H2=>tb { D with nx:=N,ct:=N,bk:=D.nx } σ2 H2):=by
  refine ⟨fun i m σ H=>m=xs.length - i∧i≤xs.length∧Pv i σ H,⟨xs.length - 0,rfl,Nat.zero_le _,h0⟩,?_⟩
  rintro i m σ H ⟨rfl,hi,p⟩
  obtain ⟨qa,qb⟩:=hl i σ H hi p
  by_cases h:i < xs.length
  · refine .inr ⟨⟨qa,qb,h,by omega⟩,Pv (i + 1),fun σ' H' p'=>⟨xs.length - (i + 1),by omega,rfl,h,p'⟩,?_⟩
    rintro x H' ⟨p',u,v,hp,rfl,rfl,hu,hv⟩
    exact hs i u v p' σ H hu hv hp p
  · have e:i=xs.length:=by omega
    subst e
    exact .inl ⟨⟨qa,Nat.le_refl _⟩,hd σ H p⟩
end L2
namespace K22
open PySem L2 TM TT K9 K11
abbrev UJ:Stmt:=top 48
abbrev XE:Stmt:=top 44
abbrev Oc:Stmt:=top 50
abbrev WE:Stmt:=top 51
def Wy (K:PySem.W.Frag) (n:Nat):Sp:=fun vs H Q _=>∃ (v v':V) (t:Tree Str),vs=[v,v']∧TrV K H v t∧TrV K H v' t∧lv t≤n∧∀ H':Hp,Same H H'→Q (.bl true) H'
section
variable {P:Program} {w:World} {K:PySem.W.Frag} {mg:Str→Option Value} {base:Heap} {f:Addr} {fd:FuncData}
theorem Oz:FnScope ["_law_found", "_law_due", "_law_one", "_law_other"] ["_law_found", "_law_due"] (defScope UJ):=⟨rfl,rfl,rfl,by decide +kernel,rfl,by decide +kernel,by decide +kernel⟩
theorem PL {n:Nat} (F:Fun K "_law_alike" "_law_alike" UJ f fd) (G:Gm mg) (RH:Fn P w K mg base 1 "_law_whole" ["_law_found"] Uq) (R:Fn P w K mg base (n + 1) "_law_alike" ["_law_found", "_law_due"] (Wy K n)):FnOk P w K mg base CX0 (n + 2) f fd ["_law_found", "_law_due"] (Wy K (n + 1)):=by
  refine F.ok Oz (fun vs H Q E h=>?_) (fun cdv A outer s H vs Q E hr h=>?_)
  · obtain ⟨v,v',t,rfl,_⟩:=h
    rfl
  obtain ⟨v,v',t,rfl,h1,h2,hlv,q⟩:=h
  refine ⟨_,(Qe (QT (PW.pt (pw_or (Z2 (Zv (Qq YJ rfl G.isi PyProof.Rows.boot_isinstance (Qa (pv 0) (Qa (YK (v:=.ty "tuple") rfl G.tup PyProof.Rows.boot_tuple rfl) Qc))))) (pw_or (Qy Mi (Qq Qo rfl G.len PySem.boot_len (Qa (pv 0) Qc)) Qd (QA _)) (pw_or1 (Z2 (Zv (Qq Yc rfl G.isi PyProof.Rows.boot_isinstance (Qa (Qj Ql (pv 0) Qd (fun _ _=>rfl)) (Qa (YK (v:=.ty "str") rfl G.str PyProof.Rows.boot_str rfl) Qc))))))))) (Qi (Qp Z4)) Qx)
    (Qe (QT (PW.pt (pw_or (Z2 (Zv (Qr RH hr (Qa (Qj Ql (pv 0) Qd (fun _ _=>rfl)) Qc) (Nat.le_add_left 1 n)))) (pw_or (Z2 (Zv (Qq YJ rfl G.isi PyProof.Rows.boot_isinstance (Qa (Qj Ql (pv 0) Qd (fun _ _=>rfl)) (Qa (YK (v:=.ty "tuple") rfl G.tup PyProof.Rows.boot_tuple rfl) Qc))))) (pw_or1 (Qy Mi (Qq Qo rfl G.len PySem.boot_len (Qa (Qj Ql (pv 0) Qd (fun _ _=>rfl)) Qc)) (Qq Qo rfl G.len PySem.boot_len (Qa (Qj Ql (pv 1) Qd (fun _ _=>rfl)) Qc)) (QA _)))))) (Qi (Qp Z4)) Qx)
    (Qe (QU PassesOwn.never rfl (W8 rfl G.zip (Qa (Qj Ql (pv 0) Qd (fun _ _=>rfl)) (Qa (Qj Ql (pv 1) Qd (fun _ _=>rfl)) Qc))) (ZY rfl (QF (Qu (i:=2) Oz.nd rfl (Or.inl rfl)) (QF (Qu (i:=3) Oz.nd rfl (Or.inl rfl)) Zq))) (Qi (QT (Z2 (Zv (Qr R hr (Qa (pv 2) (Qa (pv 3) Qc)) (Nat.le_refl _)))) (Qi (Qp Z4)) Qx)))
    (Qi (Qp (Je (Yo ZK (Qj Ql (pv 0) Qd (fun _ _=>rfl)) (Qj Ql (pv 1) Qd (fun _ _=>rfl)) (QA _)) (UD (Yo ZK (Qj Ql (pv 0) Qd (fun _ _=>rfl)) (Qj Ql (pv 1) Qd (fun _ _=>rfl)) (QA _))))))))),?_⟩
  cases h1 with
  | @mk a b us ts name mark a1 a2 a3 a4 =>
  cases h2 with
  | @mk a' b' us' _ _ _ b1 b2 b3 b4 =>
  have l1:=a3.length
  have l2:=b3.length
  rw [Zn] at hlv
  refine ⟨_,rfl,a,_, "tuple", true,rfl,a1,rfl,_,rfl,Zu ⟨_,rfl,a,_,rfl,.inr a1,rfl,_,rfl,G4 rfl ⟨_,rfl,a,_,0,_,rfl,rfl,a1,rfl,_, "str", _,true,rfl,.str _,rfl,_,rfl,Zu ?_⟩⟩⟩
  refine ⟨_,rfl,a,_,1,_,rfl,rfl,a1,rfl,mark,rfl,_,rfl,Zu ⟨_,rfl,a,_,2,_,rfl,rfl,a1,rfl,b,_, "tuple", true,rfl,a2,rfl,_,rfl,Zu ⟨_,rfl,a,_,2,_,rfl,rfl,a1,rfl,b,_,rfl,.inr a2,_,rfl,a',_,2,_,rfl,rfl,b1,rfl,b',_,rfl,.inr b2,rfl,_,rfl,G4 (by rw [l1,l2]) ?_⟩⟩⟩
  refine ⟨_,rfl,a,_,2,_,rfl,rfl,a1,rfl,_,rfl,a',_,2,_,rfl,rfl,b1,rfl,b,b',us,us',rfl,a2,b2,?_⟩
  refine Mq (K:=K) (xs:=us) (ys:=us') (by omega) (fun i σ H'=>∃ c2 c3:Option V,σ=[some (.ref a),some (.ref a'),c2,c3]∧Same H H')
    ⟨none,none,rfl,Same.refl _⟩ ?_ ?_ ?_
  · rintro i σ H' _ ⟨c2,c3,_,g⟩
    exact ⟨g.seqT a2,g.seqT b2⟩
  · rintro i u v p σ H' hu hv hp ⟨c2,c3,rfl,g⟩
    have hib:i < ts.length:=by
      have:=(List.getElem?_eq_some_iff.mp hv).1
      omega
    obtain ⟨cv,hcv,hct⟩:=a3.get (List.getElem?_eq_getElem hib)
    obtain rfl:cv=u:=Option.some.inj (hcv.symm.trans hu)
    obtain ⟨dv,hdv,hdt⟩:=b3.get (List.getElem?_eq_getElem hib)
    obtain rfl:dv=v:=Option.some.inj (hdv.symm.trans hv)
    have gg:=g.trans (Qf hp (.tup [cv,dv]))
    have k1:lv ts[i]≤lvs ts:=Ud (List.getElem_mem hib)
    have k2:lvs ts≤n:=by
      have:1 + lvs ts≤n + 1:=hlv
      omega
    refine ⟨p,_,rfl,SqT.of Qb,rfl,_,_,rfl,_,_,rfl,rfl,?_⟩
    refine ⟨_,rfl,_,rfl,cv,dv,ts[i],rfl,hct.mono fun _ _=>gg.seqT,hdt.mono fun _ _=>gg.seqT,by omega,fun H4 g4=>⟨_,rfl,Zu ?_⟩⟩
    exact ⟨_,_,rfl,gg.trans g4⟩
  · rintro σ H' ⟨c2,c3,rfl,g⟩
    refine ⟨_,rfl,a,_,0,_,rfl,rfl,g.seqT a1,rfl,_,rfl,a',_,0,_,rfl,rfl,g.seqT b1,rfl,rfl,_,rfl,Xm rfl ⟨_,rfl,a,_,1,_,rfl,rfl,g.seqT a1,rfl,_,rfl,a',_,1,_,rfl,rfl,g.seqT b1,rfl,rfl,?_⟩⟩
    have e:decide (V.int mark=V.int mark)=true:=decide_eq_true rfl
    show Q (.bl (decide (V.int mark=V.int mark))) H'
    rw [e]
    exact q H' g
theorem MT {k:Nat}:FnOk P w K mg base CX0 k f fd ["_law_found", "_law_due"] (Wy K 0):=by
  have no:∀ vs H Q E,¬ Wy K 0 vs H Q E:=fun vs H Q E h=>by
    obtain ⟨v,v',t,_,_,_,h0,_⟩:=h
    rw [Zn] at h0;omega
  exact ⟨fun vs H Q E h=>absurd h (no vs H Q E),fun A outer s H args us vs Q E _ _ _ _ h=>absurd h (no vs H Q E)⟩
theorem Mp (F:Fun K "_law_alike" "_law_alike" UJ f fd) (G:Gm mg) (RH:Fn P w K mg base 1 "_law_whole" ["_law_found"] Uq) (hb:Binds K fd ["_law_found", "_law_due"] []) (hm:mg "_law_alike" = some (.ref f)):∀ n:Nat,FnOk P w K mg base CX0 (n + 1) f fd ["_law_found", "_law_due"] (Wy K n)
  | 0=>MT
  | n + 1=>PL F G RH ⟨f,fd,Mp F G RH hb hm n,hb,F.kp,hm⟩
end
end K22
namespace K22
open PySem L2 TM TT K9 K11
abbrev dR:Tree Str:=.node (S []) 0 []
def Yw (K:PySem.W.Frag) (n:Nat):Sp:=fun vs H Q _=>∃ (tu wd lm:Addr) (sv:V) (mo:List MdT) (T:Tu) (v:V) (u:Tm) (rv:V) (r:Tree Str),vs=[.ref tu,v,rv]∧TurnAt K H tu wd lm sv mo T∧TurnOk mo T∧TBd T∧TmV K H v u∧lv u≤8∧TrV K H rv r∧K22.St T (u,r)∧lv r * 10 + lv u≤n ∧
  ∀ v' H',Same H H'→TrV K H' v' (valT opR dR T u r)→Q v' H'
section
variable {P:Program} {w:World} {K:PySem.W.Frag} {mg:Str→Option Value} {base:Heap} {f:Addr} {fd:FuncData}
theorem WI:FnScope ["_law_turning_here", "_law_term_here", "_law_read", "_law_tree", "_law_parts"] ["_law_turning_here", "_law_term_here", "_law_read"] (defScope XE):=⟨rfl,rfl,rfl,by decide +kernel,rfl,by decide +kernel,by decide +kernel⟩
theorem MG {n:Nat} (F:Fun K "_law_made" "_law_made" XE f fd) (G:Gm mg) (RL:Fn P w K mg base 1 "_law_rule" ["_law_turning_here", "_law_mode", "_law_name"] (YC K)) (R:Fn P w K mg base (n + 1) "_law_made" ["_law_turning_here", "_law_term_here", "_law_read"] (Yw K n)):FnOk P w K mg base CX0 (n + 2) f fd ["_law_turning_here", "_law_term_here", "_law_read"] (Yw K (n + 1)):=by
  refine F.ok WI (fun vs H Q E h=>?_) (fun cdv A outer s H vs Q E hr h=>?_)
  · obtain ⟨tu,wd,lm,sv,mo,T,v,u,rv,r,rfl,_⟩:=h
    rfl
  obtain ⟨tu,wd,lm,sv,mo,T,v,u,rv,r,rfl,hT,hO,hB,hu,hlv,hrv,hst,hn,q⟩:=h
  refine ⟨_,(Qe (QT (Qy ZK (Qj Ql (pv 1) Qd (fun _ _=>rfl)) Q6 (QA _)) (Qe (Qn (i:=3) WI.nd rfl (Or.inl rfl) (Qj Ql (Qj Ql (pv 2) Qd (fun _ _=>rfl)) (Qj Ql (pv 1) Qd (fun _ _=>rfl)) (fun _ _=>rfl)))
    (Qi (Qp (Qr R hr (Qa (pv 0) (Qa (Qr RL hr (Qa (pv 0) (Qa (Qj Ql (pv 1) Qd (fun _ _=>rfl)) (Qa (Qj Ql (pv 3) Qd (fun _ _=>rfl)) Qc))) (by omega)) (Qa (pv 3) Qc))) (Nat.le_refl _))))) Qx)
    (Qe (ZC (i:=4) (CompG.many (xs:=["_law_part"]) (caps:=["_law_read", "_law_turning_here"]) (cap:=[2,0]) (cs:=[_,_]) rfl rfl (by decide +kernel) (by decide +kernel) (by decide +kernel) (by decide +kernel) (by decide +kernel) (by decide +kernel) rfl rfl rfl) rfl (YZ (Qj Ql (pv 1) Qd (fun _ _=>rfl))) (Zk (CompG.many (xs:=["_law_part"]) (caps:=["_law_read", "_law_turning_here"]) (cap:=[2,0]) (cs:=[_,_]) rfl rfl (by decide +kernel) (by decide +kernel) (by decide +kernel) (by decide +kernel) (by decide +kernel) (by decide +kernel) rfl rfl rfl)) (fun _ _ _ _=>QX) (fun _ _ _ _=>Qr R hr (Qa (pv 2) (Qa (pv 0) (Qa (pv 1) Qc))) (Nat.le_refl _)) WI.nd rfl rfl)
    (Qi (Qp (QJ (Qa (Qj Ql (pv 1) Qd (fun _ _=>rfl)) (Qa (Qm QG (Qj Ql (pv 1) Qd (fun _ _=>rfl)) (Qm ZN (Qj Ql (pv 2) Qd (fun _ _=>rfl)) (QB JV rfl G.int PyProof.Rows.boot_int (Qa (Qj Ql (pv 1) Qd (fun _ _=>rfl)) Qc)))) (Qa (QB Q8 rfl G.tup PyProof.Rows.boot_tuple (Qa (pv 4) Qc)) Qc)))))))),?_⟩
  obtain ⟨ra,rb,rs,erv,q1,q2,q3,q4⟩ : ∃ (ra rb:Addr) (rs:List V),rv=.ref ra∧SqT K H ra [.str (nmT r),.int (mkT r),.ref rb]∧SqT K H rb rs∧TrAll K H rs r.bs∧rs.length≤1000:=by
    cases hrv with
    | mk a1 a2 a3 a4=>exact ⟨_,_,_,rfl,a1,a2,a3,a4⟩
  subst erv
  rcases Yk hu with ⟨a,m,b,rfl,rfl,h1⟩ | ⟨a,b,bs,nm,k,ad,rfl,et,h1,h2,h3,h4⟩
  · obtain ⟨c,md,v2,b0,m0,e1,e2,e3,e4,e5⟩:=hst.call hO.ok (m:=m) (b:=b) (by simp [Ze,cls,lcl])
    obtain ⟨mm,hmm,emd,hlen⟩:=hO.get e2
    obtain ⟨cv,hcv,hct⟩:=q3.get e1
    obtain ⟨ca,cb,cs,ecv,c1,c2,c3,c4⟩ : ∃ (ca cb:Addr) (cs:List V),cv=.ref ca∧SqT K H ca [.str (nmT c),.int (mkT c),.ref cb]∧SqT K H cb cs∧TrAll K H cs c.bs∧cs.length≤1000:=by
      cases hct with
      | mk a1 a2 a3 a4=>exact ⟨_,_,_,rfl,a1,a2,a3,a4⟩
    subst ecv
    have eb:b=((b.toNat:Nat):Int):=by omega
    have em:m=((m.toNat:Nat):Int):=by omega
    have hat:atI rs b=some (.ref ca):=by rw [eb];exact Qv hcv
    have hmem:=List.mem_of_getElem? e1
    have l1:=Ud hmem
    rw [Zn] at hn
    obtain ⟨l2,_⟩:=hB md (List.mem_of_getElem? e2) v2 e4
    refine ⟨_,rfl,a,_,0,_,rfl,rfl,h1,rfl,rfl,_,rfl,?_⟩
    show if decide (V.str CALL=V.str CALL)=true then _ else _
    rw [decide_eq_true rfl]
    refine Q7 ⟨_,rfl,ra,_,2,_,rfl,rfl,q1,rfl,_,rfl,a,_,2,_,rfl,rfl,h1,rfl,rb,_,_,_,rfl,rfl,q2,hat,?_⟩
    refine ⟨_,rfl,_,rfl,_,rfl,a,_,1,_,rfl,rfl,h1,rfl,_,rfl,ca,_,0,_,rfl,rfl,c1,rfl,tu,wd,lm,sv,m.toNat,nmT c,T.ks,mo,mm,by rw [← em];rfl,hT.tu,hT.w,hO.wo,hT.m,hmm,hlen,hO.ne hmm,fun v3 H3 g3 hv3=>?_⟩
    rw [emd,e3] at hv3
    refine ⟨_,rfl,tu,wd,lm,sv,mo,T,v3,v2,.ref ca,c,rfl,hT.same g3,hO,hB,hv3,by omega,hct.mono fun _ _=>g3.seqT,e5,by omega,fun v4 H4 g4 hv4=>q v4 H4 (g3.trans g4) ?_⟩
    have ev:valT opR dR T (Ze m b) r=valT opR dR T v2 c:=by
      have:valT opR dR T (Ze m b) r=(r.bs[b.toNat]?).elim dR fun c=>Zl opR dR T.ks T.ms c m:=rfl
      rw [this,e1]
      exact Y3 e2 e3
    rw [ev];exact hv4
  · have ecp:decide (V.str PUT=V.str CALL)=false:=by decide +kernel
    refine ⟨_,rfl,a,_,0,_,rfl,rfl,h1,rfl,rfl,_,rfl,?_⟩
    show if decide (V.str PUT=V.str CALL)=true then _ else _
    rw [ecp]
    have ecls:cls u=Zj u.bs:=by
      have:=congrArg cls et
      rw [this];simp [cls,lcl]
    have hlen:=h3.length
    rw [Zn u] at hlv hn
    obtain ⟨kinds,f1,f2,f3⟩:=hst
    refine Zu ⟨_,rfl,a,_,4,_,rfl,rfl,h1,rfl,b,rfl,⟨_,h2⟩,fun acc hacc=>?_⟩
    refine Ww (K:=K) (xs:=bs) (cs:=[some (.ref ra),some (.ref tu)]) (tt:=fun _ H Q=>Q true H) (fun i ys H'=>H' acc=some (.lst ys)∧Same H H'∧ys.length=i∧TrAll K H' ys ((u.bs.take i).map fun p=>valT opR dR T p r))
      ⟨Qb,Qf hacc _,rfl,.nil⟩ ?_ ?_ ?_
    · rintro i ys H' _ ⟨_,g,_⟩
      exact g.seqT h2
    · rintro i x ys H' hi hx ⟨hya,g,hyl,hys⟩
      obtain ⟨c,hc⟩ : ∃ c,u.bs[i]?=some c:=⟨_,List.getElem?_eq_getElem (by omega)⟩
      obtain ⟨cv',hcv,hct⟩:=h3.get hc
      obtain rfl:cv'=x:=Option.some.inj (hcv.symm.trans hx)
      have hm:=List.mem_of_getElem? hc
      have a1:=Ud hm
      have hst':K22.St T (c,r):=by
        refine ⟨kinds,?_,f2,f3⟩
        have f1':ZV (mks T.ms) kinds u=true:=f1
        show ZV (mks T.ms) kinds c=true
        unfold ZV at f1' ⊢
        rw [ecls] at f1'
        exact List.all_eq_true.mpr fun d hd=>List.all_eq_true.mp f1' d (Ye hm hd)
      refine Q7 ⟨_,rfl,_,rfl,_,rfl,tu,wd,lm,sv,mo,T,cv',c,.ref ra,r,rfl,hT.same g,hO,hB,hct.mono fun _ _=>g.seqT,by omega,hrv.mono fun _ _=>g.seqT,hst',by omega,fun v4 H4 g4 hv4=>?_⟩
      have hya4:=g4 _ _ hya
      refine Qw (ys:=ys) hi hya4 (by omega) ⟨Qb,fun x u e=>?_,by simp [hyl],?_⟩
      · rw [Qg (Qh e hacc)];exact g4 _ _ (g _ _ e)
      · rw [List.take_add_one,hc,Option.toList_some,List.map_append]
        exact TrAll.append (hys.mono fun _ _ h=>(g4.seqT h).put hya4) (.cons (hv4.mono fun _ _ h=>h.put hya4) .nil)
    rintro ys H1 ⟨hya,g,hyl,hys⟩
    have et2:u.bs.take bs.length=u.bs:=List.take_of_length_le (by omega)
    rw [et2] at hys
    refine ⟨_,rfl,a,_,1,_,rfl,rfl,g.seqT h1,rfl,_,rfl,a,_,3,_,rfl,rfl,g.seqT h1,rfl,_,rfl,ra,_,1,_,rfl,rfl,g.seqT q1,rfl,_,rfl,a,_,2,_,rfl,rfl,g.seqT h1,rfl,.inr ⟨k,rfl,?_⟩⟩
    refine ⟨_,_,rfl,rfl,.inr ?_,_,_,rfl,rfl,_,rfl,acc,ys,rfl,.inl ⟨SqL.of hya,fun tp htp=>?_⟩⟩
    · cases k <;> exact ⟨by decide,by decide⟩
    have s2:=Qf htp (.tup ys)
    have b2:upd H1 tp (.tup ys) tp=some (.tup ys):=Qb
    generalize upd H1 tp (.tup ys)=H2 at s2 b2 ⊢
    refine ⟨(by show 3≤sizeLine;decide),fun tq htq=>?_⟩
    have ek:ad + mkT r * (if k=true then 1 else 0)=(if k=true then ad + mkT r else ad):=by cases k <;> simp
    generalize hX:upd H2 tq _=H3
    have s3:Same H2 H3:=by rw [← hX];exact Qf htq _
    have b3:H3 tq=some (.tup [.str nm,.int (if k=true then ad + mkT r else ad),.ref tp]):=by rw [← hX,← ek];exact Qb
    clear hX
    have ev:valT opR dR T u r=.node nm (if k=true then ad + mkT r else ad) (u.bs.map fun p=>valT opR dR T p r):=by
      unfold valT
      conv=>lhs;rw [et]
      simp only [QN,ZW]
      rfl
    refine q _ _ (g.trans (s2.trans s3)) ?_
    rw [ev]
    exact TrV.mk (SqT.of b3) (SqT.of (s3 _ _ b2)) (hys.mono fun _ _ h=>s3.seqT (s2.seqT h)) (by omega)
theorem VI {k:Nat}:FnOk P w K mg base CX0 k f fd ["_law_turning_here", "_law_term_here", "_law_read"] (Yw K 0):=by
  have no:∀ vs H Q E,¬ Yw K 0 vs H Q E:=fun vs H Q E h=>by
    obtain ⟨tu,wd,lm,sv,mo,T,v,u,rv,r,_,_,_,_,_,_,_,_,h0,_⟩:=h
    rw [Zn] at h0;omega
  exact ⟨fun vs H Q E h=>absurd h (no vs H Q E),fun A outer s H args us vs Q E _ _ _ _ h=>absurd h (no vs H Q E)⟩
theorem X8 (F:Fun K "_law_made" "_law_made" XE f fd) (G:Gm mg) (RL:Fn P w K mg base 1 "_law_rule" ["_law_turning_here", "_law_mode", "_law_name"] (YC K)) (hb:Binds K fd ["_law_turning_here", "_law_term_here", "_law_read"] []) (hm:mg "_law_made" = some (.ref f)):∀ n:Nat,FnOk P w K mg base CX0 (n + 1) f fd ["_law_turning_here", "_law_term_here", "_law_read"] (Yw K n)
  | 0=>VI
  | n + 1=>MG F G RL ⟨f,fd,X8 F G RL hb hm n,hb,F.kp,hm⟩
end
end K22
namespace K22
open PySem L2 TM TT K9 K11
inductive Way (T:Tu) (mo:List MdT) (t:Tree Str):V→Tm→Prop where
  | start:lv T.start≤8→sz T.start≤100→(reprText T.k0).length≤1000→isT (QW T.ks) t T.k0=true→Way T mo t .non T.start
  | mode {m:Nat} {md:MdT}:mo[m]?=some md→(reprText md.2.1).length≤1000→isT (QW T.ks) t md.2.1=true→Way T mo t (.int (m:Int)) (Ze (m:Int) 0)
def Ll (K:PySem.W.Frag) (T1 T2 T3:Addr):Sp:=fun vs H Q _=>∃ (tu wd lm:Addr) (sv:V) (mo:List MdT) (T:Tu) (rv:V) (t:Tree Str) (mv:V) (u:Tm),vs=[.ref tu,mv,rv]∧Ask K H tu wd lm sv mo T rv t∧Tb3 T1 T2 T3 H∧Way T mo t mv u ∧
  ∀ (p:Addr) (v':V) (b:Bool) (H':Hp),SX3 T1 T2 T3 H H'→Tb3 T1 T2 T3 H'→SqT K H' p [v',.bl b]→(Um T u t→b=false∧TrV K H' v' (Jv T u t))→(¬ Um T u t→b=true)→Q (.ref p) H'
section
variable {P:Program} {w:World} {K:PySem.W.Frag} {mg:Str→Option Value} {base:Heap} {f:Addr} {fd:FuncData}
theorem JL:FnScope ["_law_turning_here", "_law_mode", "_law_tree", "_law_told", "_law_great_here"] ["_law_turning_here", "_law_mode", "_law_tree"] (defScope Oc):=⟨rfl,rfl,rfl,by decide +kernel,rfl,by decide +kernel,by decide +kernel⟩
theorem On {CN CG T1 T2 T3:Addr} (F:Fun K "_law_answer" "_law_answer" Oc f fd) (hG:mg "TooGreat" = some (.ref CG)) (hq:PySem.W.ktsIn K CG "BaseException" = true)
    (RT':FnX P w K mg base 57 "turned" ["turning", "tree"] (Od K CN CG T1 T2 T3)) (RI:FnX P w K mg base 57 "turned_in" ["turning", "mode", "tree"] (W2 K CN CG T1 T2 T3)):FnOk P w K mg base CX0 58 f fd ["_law_turning_here", "_law_mode", "_law_tree"] (Ll K T1 T2 T3):=by
  refine F.ok JL (fun vs H Q E h=>?_) (fun cdv A outer s H vs Q E hr h=>?_)
  · obtain ⟨tu,wd,lm,sv,mo,T,rv,t,mv,u,rfl,_⟩:=h
    rfl
  obtain ⟨tu,wd,lm,sv,mo,T,rv,t,mv,u,rfl,hA,htb,hw,q⟩:=h
  refine ⟨_,(Qe (Qn (i:=3) JL.nd rfl (Or.inl rfl) ZF)
    (Qe (Qn (i:=4) JL.nd rfl (Or.inl rfl) Z4)
    (Qe (Z8 (OA hG hq rfl (fun pins EE=>Qi (QT (Qy LI (pv 1) ZF (QA _)) (Qi (Qn (i:=3) JL.nd rfl (Or.inl rfl) (Yr (EE:=EE) RT' hr NX (Qa (pv 0) (Qa (pv 2) Qc))))) (Qi (Qn (i:=3) JL.nd rfl (Or.inl rfl) (Yr (EE:=EE) RI hr NX (Qa (pv 0) (Qa (pv 1) (Qa (pv 2) Qc)))))))) (fun a=>Qi (Qn (i:=4) JL.nd rfl (Or.inl rfl) Z4))))
    (Qi (Qp (QJ (Qa (pv 3) (Qa (pv 4) Qc)))))))),?_⟩
  refine ⟨fun σ' H'=>∃ (v':V) (b:Bool),σ'=[some (.ref tu),some mv,some rv,some v',some (.bl b)]∧SX3 T1 T2 T3 H H'∧Tb3 T1 T2 T3 H'∧(Um T u t→b=false∧TrV K H' v' (Jv T u t))∧(¬ Um T u t→b=true),?_,?_⟩
  · refine ⟨fun σ' cls _ H'=>cls=.ref CG∧σ'=[some (.ref tu),some mv,some rv,some .non,some (.bl false)]∧SX3 T1 T2 T3 H H'∧Tb3 T1 T2 T3 H'∧¬ Um T u t,?_,?_⟩
    · cases hw with
      | start h1 h2 h3 h4 =>
        refine ⟨_,rfl,rfl,_,rfl,Xm rfl ⟨_,rfl,_,rfl,tu,wd,lm,sv,mo,T,rv,t,rfl,hA,h1,h2,h3,htb,fun z=>absurd (h4.symm.trans z) (by decide),fun _ z v' H' x' tb' hv'=>⟨v',false,rfl,x',tb',fun _=>⟨rfl,hv'⟩,fun k=>absurd z k⟩,fun _ z H' x' tb'=>⟨rfl,rfl,x',tb',z⟩⟩⟩
      | @mode m md h1 h2 h3 =>
        refine ⟨_,rfl,rfl,_,rfl,Wa (fun z=>nomatch z) ⟨_,rfl,_,rfl,_,rfl,tu,wd,lm,sv,mo,T,rv,t,m,md,rfl,hA,h1,h2,htb,fun z=>absurd (h3.symm.trans z) (by decide),fun _ z v' H' x' tb' hv'=>⟨v',false,rfl,x',tb',fun _=>⟨rfl,hv'⟩,fun k=>absurd z k⟩,fun _ z H' x' tb'=>⟨rfl,rfl,x',tb',z⟩⟩⟩
    · rintro σ' cls H' ⟨rfl,rfl,x',tb',z⟩
      exact ⟨rfl,.non,true,rfl,x',tb',fun k=>absurd k z,fun _=>rfl⟩
  rintro σ H1 ⟨v',b,rfl,x1,tb1,h1,h2⟩
  refine ⟨_,rfl,_,rfl,(by show 2≤sizeLine;decide),fun p hp=>?_⟩
  have sp:=Qf hp (.tup [v',.bl b])
  exact q p v' b _ (x1.trans (SX3.of sp)) (tb1.same sp) (SqT.of Qb) (fun k=>⟨(h1 k).1,(h1 k).2.mono fun _ _=>sp.seqT⟩) h2
end
end K22
namespace K22
open PySem L2 TM TT K9 K11
theorem Jd:∀ (xs:List Nat) (a:Nat),xs.foldl max a=max a (xs.foldl max 0)
  | [],a=>by simp
  | x :: r,a=>by
    rw [List.foldl_cons,List.foldl_cons,Jd r (max a x),Jd r (max 0 x)]
    omega
mutual
theorem Xe {mk:Int} {cR:Int→Int→Tree Str} {cT:Int→Int→Nat} (h:∀ m b,lv (cR m b)≤cT m b + 1):∀ u:Tm,lv (QN (fun l xs=>opR l mk xs) cR u)≤QN (fun l xs=>opT l mk xs) cT u + 1
  | .node (.call m b) _ _=>by simp only [QN];exact h m b
  | .node (.put n k a) _ bs=>by
    have:=X7 (mk:=mk) h bs
    simp only [QN]
    show lv (Tree.node n _ (Q1 (fun l xs=>opR l mk xs) cR bs))≤1 + (Q1 (fun l xs=>opT l mk xs) cT bs).foldl max 0 + 1
    simp only [lv]
    omega
theorem X7 {mk:Int} {cR:Int→Int→Tree Str} {cT:Int→Int→Nat} (h:∀ m b,lv (cR m b)≤cT m b + 1):∀ us:List Tm,lvs (Q1 (fun l xs=>opR l mk xs) cR us)≤(Q1 (fun l xs=>opT l mk xs) cT us).foldl max 0 + 1
  | []=>by simp [Q1,lvs]
  | u :: r=>by
    have h1:=Xe (mk:=mk) h u
    have h2:=X7 (mk:=mk) h r
    simp only [Q1,lvs,List.foldl_cons]
    rw [Jd]
    omega
end
mutual
theorem Lh {ks:List KdT} {ms:List Md}:∀ (t:Tree Str) (m:Int),lv (Zl opR dR ks ms t m)≤Zl opT 0 ks ms t m + 1
  | .node n mk bs,m=>by
    have d1:lv dR≤0 + 1:=by simp [dR,lv,lvs]
    simp only [Zl]
    cases ms[m.toNat]? with
    | none=>exact d1
    | some md =>
      simp only
      cases ruleK ks md n with
      | none=>exact d1
      | some u=>exact Xe (fun m' b=>Vj bs b.toNat m') u
theorem Vj {ks:List KdT} {ms:List Md}:∀ (ts:List (Tree Str)) (i:Nat) (m:Int),lv (((Za opR dR ks ms ts)[i]?).elim dR fun g=>g m)≤(((Za opT 0 ks ms ts)[i]?).elim 0 fun g=>g m)+1
  | [],i,m=>by simp [Za,dR,lv,lvs]
  | t :: r,0,m=>by simpa [Za] using Lh t m
  | t :: r,i + 1,m=>by simpa [Za] using Vj r i m
end
theorem Og {T:Tu} {u:Tm} {r:Tree Str}:lv (valT opR dR T u r)≤valT opT 0 T u r + 1:=by
  unfold valT
  refine Xe (fun m b=>?_) u
  cases r.bs[b.toNat]? with
  | none=>simp [dR,lv,lvs]
  | some c=>exact Lh c m
theorem Tbs.sx3 {T1 T2 T3:Addr} {H0 H H':Hp} {l:Addr} {es:EsL} (h:Tbs H0 H l es) (tb:Tb3 T1 T2 T3 H) (x:SX3 T1 T2 T3 H H'):Tbs H0 H' l es:=by
  obtain ⟨p1,h1⟩:=tb.m.at
  obtain ⟨p2,h2⟩:=tb.t.at
  obtain ⟨p3,h3⟩:=tb.r.at
  have go:∀ b u,H b=some u→(∀ ps,u≠.tbl ps)→H' b=some u:=fun b u e n=>x b u (QK e h1 (n p1)) (QK e h2 (n p2)) (QK e h3 (n p3)) e
  exact ⟨go _ _ h.l (fun _ z=>(nomatch z)),h.inj,h.fr,fun i e he=>go _ _ (h.at' i e he) fun _ z=>nomatch z⟩
def Xd (K:PySem.W.Frag) (T1 T2 T3:Addr):Sp:=fun vs H Q _=>∃ (tu wd lm:Addr) (sv:V) (mo:List MdT) (T:Tu) (rv:V) (t:Tree Str) (mv:V) (u:Tm) (fp:Addr) (tv:V),vs=[.ref tu,mv,rv,.ref fp,tv]∧Ask K H tu wd lm sv mo T rv t∧Tb3 T1 T2 T3 H∧Way T mo t mv u∧SqT K H fp [.int ((valT opM 0 T u (upT t):Nat):Int),.int ((valT opT 0 T u (upT t):Nat):Int)]∧TmV K H tv u∧K22.St T (u,upT t)∧lv u≤8∧lv t≤12 ∧
  ∀ H':Hp,SX3 T1 T2 T3 H H'→Tb3 T1 T2 T3 H'→Q (.bl true) H'
section
variable {P:Program} {w:World} {K:PySem.W.Frag} {mg:Str→Option Value} {base:Heap} {f:Addr} {fd:FuncData}
theorem JX:FnScope ["_law_turning_here", "_law_mode", "_law_tree", "_law_fit", "_law_term_here", "_law_told", "_law_great_here"] ["_law_turning_here", "_law_mode", "_law_tree", "_law_fit", "_law_term_here"] (defScope WE):=⟨rfl,rfl,rfl,by decide +kernel,rfl,by decide +kernel,by decide +kernel⟩
theorem Ml {T1 T2 T3:Addr} (F:Fun K "_law_right" "_law_right" WE f fd) (RA:Fn P w K mg base 58 "_law_answer" ["_law_turning_here", "_law_mode", "_law_tree"] (Ll K T1 T2 T3)) (RL:Fn P w K mg base 62 "_law_alike" ["_law_found", "_law_due"] (Wy K 61)) (RM:Fn P w K mg base 139 "_law_made" ["_law_turning_here", "_law_term_here", "_law_read"] (Yw K 138)):FnOk P w K mg base CX0 140 f fd ["_law_turning_here", "_law_mode", "_law_tree", "_law_fit", "_law_term_here"] (Xd K T1 T2 T3):=by
  refine F.ok JX (fun vs H Q E h=>?_) (fun cdv A outer s H vs Q E hr h=>?_)
  · obtain ⟨tu,wd,lm,sv,mo,T,rv,t,mv,u,fp,tv,rfl,_⟩:=h
    rfl
  obtain ⟨tu,wd,lm,sv,mo,T,rv,t,mv,u,fp,tv,rfl,hA,htb,hw,hf,htv,hst,hlu,hlt,q⟩:=h
  refine ⟨_,(Qe (Yu (Qr RA hr (Qa (pv 0) (Qa (pv 1) (Qa (pv 2) Qc)))) (ZY rfl (QF (Qu (i:=5) JX.nd rfl (Or.inl rfl)) (QF (Qu (i:=6) JX.nd rfl (Or.inl rfl)) Zq))))
    (Qe (QT (G3 (PW.pt (pw_or (Qy Jp (Qj Ql (pv 3) Qd (fun _ _=>rfl)) Qd (QA _)) (pw_or1 (Qy Jp (Qj Ql (pv 3) Qd (fun _ _=>rfl)) Qd (QA _)))))) (Qi (Qp (pv 6))) Qx)
    (Qi (Qp (Je (Lo (pv 6)) (UD (Qr RL hr (Qa (pv 5) (Qa (Qr RM hr (Qa (pv 0) (Qa (pv 4) (Qa ((QJ (Qa (Q6) (Qa (Qd) (Qa ((QJ (Qa (pv 2) Qc))) Qc))))) Qc)))) Qc))))))))),?_⟩
  refine ⟨_,rfl,_,rfl,_,rfl,tu,wd,lm,sv,mo,T,rv,t,mv,u,rfl,hA,htb,hw,fun p v' b H1 x1 tb1 hp h1 h2=>?_⟩
  refine ⟨p,_,rfl,hp,rfl,_,_,rfl,_,_,rfl,rfl,?_⟩
  have m1:=htb.mo (K:=K) x1
  have hf1:=m1.t _ _ hf
  refine ⟨fun c H'=>H'=H1∧(c=true ↔ ¬ Um T u t),?_,?_⟩
  · refine ⟨_,rfl,fp,_,0,_,rfl,rfl,hf1,rfl,_,_,rfl,rfl,_,rfl,Y8 (fun c=>?_) (fun c=>?_)⟩
    · have c':(400:Int) < ((valT opM 0 T u (upT t):Nat):Int):=of_decide_eq_true c
      exact ⟨rfl,⟨fun _ z=>by have:=z.1;omega,fun _=>rfl⟩⟩
    · have c':¬ (400:Int) < ((valT opM 0 T u (upT t):Nat):Int):=fun z=>c (decide_eq_true z)
      refine ⟨_,rfl,fp,_,1,_,rfl,rfl,hf1,rfl,_,_,rfl,rfl,_,rfl,rfl,⟨fun z k=>?_,fun z=>?_⟩⟩
      · have z':(60:Int) < ((valT opT 0 T u (upT t):Nat):Int):=of_decide_eq_true z
        have:=k.2;omega
      · refine decide_eq_true (show (60:Int) < ((valT opT 0 T u (upT t):Nat):Int) from ?_)
        rcases Nat.lt_or_ge 60 (valT opT 0 T u (upT t)) with k | k
        · omega
        · exact absurd ⟨by omega,k⟩ z
  rintro c H' ⟨rfl,hc⟩
  cases c with
  | true =>
    have hn:=hc.mp rfl
    rw [h2 hn]
    exact Q7 ⟨_,rfl,q _ x1 tb1⟩
  | false =>
    have hF:Um T u t:=Decidable.byContradiction fun z=>Bool.false_ne_true (hc.mpr z)
    obtain ⟨rfl,hv'⟩:=h1 hF
    have e0:Str.ofString "" = S []:=by decide +kernel
    have hA1:=hA.mo m1
    refine Zu ⟨_,rfl,_,rfl,_,rfl,Q7 ⟨_,rfl,_,rfl,_,rfl,_,rfl,(by show 1≤sizeLine;decide),fun p1 hp1=>?_⟩⟩
    generalize hX:upd H' p1 _=H2
    have s2:Same H' H2:=by rw [← hX];exact Qf hp1 _
    have b2:H2 p1=some (.tup [rv]):=by rw [← hX];exact Qb
    clear hX
    refine ⟨(by show 3≤sizeLine;decide),fun p2 hp2=>?_⟩
    generalize hX:upd H2 p2 _=H3
    have s3:Same H2 H3:=by rw [← hX];exact Qf hp2 _
    have b3:H3 p2=some (.tup [.str (S []),.int 0,.ref p1]):=by rw [← hX,← e0];exact Qb
    clear hX
    have s13:=s2.trans s3
    have hA3:=hA1.mo (Mo.of s13)
    have hup:TrV K H3 (.ref p2) (upT t):=TrV.mk (SqT.of b3) (SqT.of (s3 _ _ b2)) (.cons hA3.tr .nil) (by simp)
    refine ⟨tu,wd,lm,sv,mo,T,tv,u,.ref p2,upT t,rfl,hA3.at',hA3.ok,hA3.bd,(htv.mono m1.t).mono fun _ _=>s13.seqT,hlu,hup,hst,by rw [NP];omega,fun v4 H4 s4 hv4=>?_⟩
    have hlv:lv (Jv T u t)≤61:=by
      have h1:=Og (T:=T) (u:=u) (r:=upT t)
      have h2:=hF.2
      exact Nat.le_trans h1 (by omega)
    exact ⟨v',v4,Jv T u t,rfl,hv'.mono fun _ _ h=>s4.seqT (s13.seqT h),hv4,hlv,fun H5 s5=>q H5 (x1.trans (SX3.of (s13.trans (s4.trans s5)))) (tb1.same (s13.trans (s4.trans s5)))⟩
end
end K22
namespace L2
open PySem PySem.Spec PyProof.Rows
section
variable {X:Cx} {st:Stmt} {rest a b:List Stmt} {t u:TS} {e c:Expr} {es:List Expr} {te:TE} {ta:TA} {tc:TT} {pos:Pos}
end
end L2
namespace L2
open PySem PySem.Spec PyProof.Rows
section
variable {X:Cx} {p0 p1 p2 p3 p4 p5:Pos}
end
section
variable {X:Cx} {p0 p1 p2 p3 p4:Pos} {e1 e2 e3 e4:Expr} {t1 t2 t3 t4:TE}
end
end L2
namespace K22
open PySem L2 TM TT K9 K11
def Vk (K:PySem.W.Frag) (A1 A2 A3:Addr):Sp:=fun vs H Q _=>∃ (a:Addr) (ns:List Int),vs=[.ref a]∧SqL K H a (ns.map V.int)∧ns.length≤63∧A1≠A2∧A1≠A3∧A2≠A3∧H A1=some (.tbl #[])∧H A2=some (.tbl #[])∧H A3=some (.tbl #[])∧∀ H',Q (.bl true) H'
abbrev Rr:List Str:=["_law_script", "_law_names_here", "_law_wood_here", "_law_turning_here", "_law_nodes", "_law_trees", "_law_tables_here", "_law_handed", "_law_tree", "_law_spot", "_law_mode"]
section
variable {P:Program} {w:World} {K:PySem.W.Frag} {mg:Str→Option Value} {base:Heap} {f:Addr} {fd:FuncData}
theorem Yd:FnScope Rr ["_law_script"] (defScope X0):=⟨rfl,rfl,rfl,by decide +kernel,rfl,by decide +kernel,by decide +kernel⟩
theorem Ov {A1 A2 A3:Addr} (F:Fun K "law" "law" X0 f fd) (G:Gm mg) (RC:Fn P w K mg base 1 "_law_cell_at" ["_law_script", "_law_k"] (Xy K)) (RN':Fn P w K mg base 2 "_law_names" ["_law_cell"] (Xq K)) (RW:Fn P w K mg base 2 "_law_wood" ["_law_cell", "_law_names_here"] (WH K)) (RT:Fn P w K mg base 5 "_law_turning" ["_law_script", "_law_wood_here", "_law_names_here"] (Y5 K)) (RG:Fn P w K mg base 3 "_law_grown" ["_law_wood_here", "_law_cells", "_law_top"] (Xo K)) (RB:Fn P w K mg base 2 "_law_built" ["_law_wood_here", "_law_nodes"] (Xx K)) (RS:Fn P w K mg base 9 "_law_measure" ["_law_term_here", "_law_below"] (Z5 K 8)) (RA:Fn P w K mg base 10 "_law_tables" ["_law_turning_here", "_law_nodes", "_law_trees"] (WY K)) (RK:Fn P w K mg base 1 "_law_copy" ["_law_turning_here"] (WR K)) (RX:Fn P w K mg base 1 "_law_mixed" ["_law_cell", "_law_k"] Zi) (RR:Fn P w K mg base 140 "_law_right" ["_law_turning_here", "_law_mode", "_law_tree", "_law_fit", "_law_term_here"] (Xd K A1 A2 A3)) :
    FnOk P w K mg base CX0 141 f fd ["_law_script"] (Vk K A1 A2 A3):=by
  refine F.ok Yd (fun vs H Q E h=>?_) (fun cdv A outer s H vs Q E hr h=>?_)
  · obtain ⟨a,cs,rfl,_⟩:=h
    rfl
  obtain ⟨a,cs,rfl,hS,h63,n12,n13,n23,ht1,ht2,ht3,q⟩:=h
  have room:∀ m:Nat,m≤64→(A.deeper (PyProof.Rows.envOfC "law" (defScope X0) s.heap.objs.size f cdv)).units + m < cLine:=fun m hm=>by have:=hr.units;omega
  refine ⟨_,(Qe (Qn (i:=1) Yd.nd rfl (Or.inl rfl) (Qr RN' hr (Qa (Qr RC hr (Qa (pv 0) (Qa (Qd) Qc))) Qc)))
    (Qe (Qn (i:=2) Yd.nd rfl (Or.inl rfl) (Qr RW hr (Qa (Qr RC hr (Qa (pv 0) (Qa (Qd) Qc))) (Qa (pv 1) Qc))))
    (Qe (Qn (i:=3) Yd.nd rfl (Or.inl rfl) (Qr RT hr (Qa (pv 0) (Qa (pv 2) (Qa (pv 1) Qc)))))
    (Qe (Qn (i:=4) Yd.nd rfl (Or.inl rfl) (Qr RG hr (Qa (pv 2) (Qa (YB Uz (pv 0) (YS Qd) (YS Qd)) (Qa (Qd) Qc)))))
    (Qe (Qn (i:=5) Yd.nd rfl (Or.inl rfl) (Qr RB hr (Qa (pv 2) (Qa (pv 4) Qc))))
    (Qe (Qn (i:=6) Yd.nd rfl (Or.inl rfl) (Qr RA hr (Qa (pv 3) (Qa (pv 4) (Qa (pv 5) Qc)))))
    (Qe (Qn (i:=7) Yd.nd rfl (Or.inl rfl) (Qr RK hr (Qa (pv 3) Qc)))
    (Qe (Qn (i:=8) Yd.nd rfl (Or.inl rfl) (Qj Qk (pv 5) Qd (fun _ _=>rfl)))
    (Qe (QT (Z2 (Zv (Qr RR hr (Qa (pv 7) (Qa (ZF) (Qa (pv 8) (Qa (Qr RS hr (Qa (Qj Ql (pv 3) Qd (fun _ _=>rfl)) (Qa ((QE (Qa (Qj Qk (pv 6) Qd (fun _ _=>rfl)) Qc))) Qc))) (Qa (Qj Ql (pv 3) Qd (fun _ _=>rfl)) Qc)))))))) (Qi (Qp Z4)) Qx)
    (Qe (Qn (i:=9) Yd.nd rfl (Or.inl rfl) (Qm Qz (Qr RX hr (Qa (Qr RC hr (Qa (pv 0) (Qa (Qd) Qc))) (Qa (Qd) Qc))) (Qq Qo rfl G.len PySem.boot_len (Qa (pv 4) Qc))))
    (Qe (QU PassesOwn.never rfl (QO rfl G.rng (Qa (Qq Qo rfl G.len PySem.boot_len (Qa (Qj Ql (pv 3) Qd (fun _ _=>rfl)) Qc)) Qc)) (Qu (i:=10) Yd.nd rfl (Or.inl rfl)) (Qi
      (QT (Qy ZK (Qj Ql (Qj Qk (Qj Ql (pv 3) Qd (fun _ _=>rfl)) (pv 10) (fun _ _=>rfl)) Qd (fun _ _=>rfl)) (Qj Qk (Qj Qk (pv 4) (pv 9) (fun _ _=>rfl)) Qd (fun _ _=>rfl)) (QA _)) (Qi
        (QT (Z2 (Zv (Qr RR hr (Qa (pv 7) (Qa (pv 10) (Qa (Qj Qk (pv 5) (pv 9) (fun _ _=>rfl)) (Qa (Zy (ZL hr) (Qj Qk (pv 6) (pv 9) (fun _ _=>rfl)) (pv 10) (fun _ _=>rfl)) (Qa ((QJ (Qa (Q6) (Qa (pv 10) (Qa (Qd) Qc))))) Qc)))))))) (Qi (Qp Z4)) Qx)) Qx)))
    (Qe (QT (Qy Ji (pv 7) (pv 3) (QA _)) (Qi (Qp Z4)) Qx)
    (Qi (Qp (Qr RR hr (Qa (pv 3) (Qa (ZF) (Qa (pv 8) (Qa (Qr RS hr (Qa (Qj Ql (pv 3) Qd (fun _ _=>rfl)) (Qa ((QE (Qa (Qj Qk (pv 6) Qd (fun _ _=>rfl)) Qc))) Qc))) (Qa (Qj Ql (pv 3) Qd (fun _ _=>rfl)) Qc)))))))))))))))))))),?_⟩
  refine ⟨_,rfl,a,cs,0,rfl,by decide,hS,fun c0=>⟨c0,rfl,fun ln H1 nn g1 hln hn8 hnd hnok hnln=>?_⟩⟩
  refine ⟨_,rfl,a,cs,1,rfl,by decide,g1.seq hS,fun c1=>⟨_,rfl,c1,ln,nn,rfl,SqL.of hln,hn8,hnd,hnok,fun lw H2 ks g2 hW hWF hkin=>?_⟩⟩
  have g12:=g1.trans g2
  refine ⟨_,rfl,_,rfl,_,rfl,a,cs,lw,ln,ks,nn,rfl,g12.seq hS,hW,hWF,SqL.of (g2 _ _ hln),hn8,hnok,fun tu lm sv H3 ms t k0 g3 htu hlm hms hm0 hm4 hk0 hsv hTF=>?_⟩
  have g13:=g12.trans g3
  have hW3:=hW.same g3
  have hrep:∀ k ∈ ks,(reprText k.2.1).length≤1000:=fun k hk=>(hnln _ (hkin k hk)).rep
  obtain ⟨T,hTd⟩ : ∃ T:Tu,T=⟨ks,k0.2.1,t,mds ms⟩:=⟨_,rfl⟩
  have hTk:T.ks=ks:=by rw [hTd]
  have hTs:T.start=t:=by rw [hTd]
  have hTm:T.ms=mds ms:=by rw [hTd]
  have hT0:T.k0=k0.2.1:=by rw [hTd]
  have hO:TurnOk ms T:=by
    refine ⟨by rw [hTk];exact hWF.ok,hTm.symm,⟨fun m hm=>?_,by rw [hTm,hT0,hTs];exact hTF.fit⟩,⟨k0,by rw [hTk];exact hk0,hT0.symm⟩⟩
    rw [hTm] at hm
    obtain ⟨m',hm',rfl⟩:=List.mem_map.mp hm
    rw [hTk,hTm]
    exact LV hWF (hms m' hm').2
  have hTB:TBd T:=by
    intro md hmd u hu
    rw [hTm] at hmd
    exact Oq (fun m hm=>(hms m hm).2) md hmd u hu
  have hls:lv T.start≤8:=by rw [hTs];have:=hTF.lv;omega
  have hss:sz T.start≤100:=by rw [hTs];exact Nat.le_trans hTF.sz (by decide)
  have hr0:(reprText T.k0).length≤1000:=by rw [hT0];exact hrep k0 (List.mem_of_getElem? hk0)
  have hrm:∀ m ∈ ms,(reprText m.2.1).length≤1000:=fun m hm=>by
    obtain ⟨k,hk,e⟩:=List.mem_map.mp (hms m hm).2.kd
    rw [← e];exact hrep k hk
  have hT3:TurnAt K H3 tu lw lm sv ms T:=⟨htu,by rw [hTk];exact hW3,⟨SqL.of hlm,fun m hm=>(hms m hm).1.at⟩,by rw [hTs];exact hsv⟩
  have hmo:∀ m ∈ ms,PyData.strOk m.2.1=true∧∀ t ∈ m.2.2.2.2,MOk 6 t:=fun m hm=>by
    obtain ⟨k,hk,e⟩:=List.mem_map.mp (hms m hm).2.kd
    exact ⟨by rw [← e];exact hWF.nm k hk,OT (hms m hm).2⟩
  obtain ⟨tl1,tl2⟩:=LW hWF hTF.mok hmo
  obtain ⟨ds,hds,hdl⟩:=L3 cs 16 76
  refine ⟨_,rfl,_,rfl,_,rfl,_,rfl,a,_,rfl,g13.seq hS,fun l1 hl1=>?_⟩
  have hds':cutV (cs.map V.int) (some 16) (some 76)=ds.map V.int:=hds
  have k4:=Qf hl1 (.lst (cutV (cs.map V.int) (some 16) (some 76)))
  have hl14:upd H3 l1 (.lst (cutV (cs.map V.int) (some 16) (some 76))) l1=some (.lst (ds.map V.int)):=by rw [Qb,hds']
  refine ⟨lw,l1,ks,ds,12,k0,rfl,hW3.same k4,hWF,hk0,SqL.of hl14,hdl,by decide,by decide,fun lnod lb H4 H5 ns bare k45 hGH hA hns0 hns1 hnf=>?_⟩
  have g35:=k4.trans (k45.trans hGH.sm)
  have hN5:NdsAt K H5 lnod ns:=hGH.at
  refine ⟨_,rfl,_,rfl,lw,lnod,ks,12,ns,rfl,hW3.same g35,hWF,hN5,hA,hns0,hns1,fun lt H6 us ts g6 hlt hus htl hok=>?_⟩
  have g36:=g35.trans g6
  obtain ⟨n0,hn0,hnk⟩:=hnf
  obtain ⟨t0,ht0⟩ : ∃ t0,ts[0]?=some t0:=⟨_,List.getElem?_eq_getElem (show 0 < ts.length by rw [htl];exact hns0)⟩
  obtain ⟨tv,htv,htr⟩:=hus.get ht0
  obtain ⟨hti,htlv,_⟩:=hok 0 n0 t0 hn0 ht0
  rw [hnk] at hti
  have hT6:=hT3.same g36
  have hRk:Trk K H6 lnod lt T.ks ns us ts:=⟨hN5.same g6,hlt,hus,htl,fun i n t h1 h2=>by
    have:=hok i n t h1 h2
    rw [hTk]
    exact ⟨this.1,Nat.le_trans this.2.1 (by decide),this.2.2⟩⟩
  have hatt:atI us 0=some tv:=Qv (j:=0) htv
  have hN6:=hN5.same g6
  refine ⟨_,rfl,_,rfl,_,rfl,tu,lw,lm,sv,ms,T,lnod,lt,ns,us,ts,rfl,hT6,hO,hTB,by omega,hRk,hns1,fun lx H7 es g7 hB7 hW7=>?_⟩
  have g67:=g36.trans g7
  obtain ⟨e0,he0⟩ : ∃ e0,es[0]?=some e0:=⟨_,List.getElem?_eq_getElem (by rw [hW7.len];exact hns0)⟩
  have hbel:=Ue hB7 hW7 he0 hn0 ht0 (by rw [hnk,hT0]) (by rw [hTm,hT0,hTs];exact hTF.fit)
  have hT7:=hT6.same g7
  refine ⟨_,rfl,tu,lw,lm,sv,ms,T,rfl,hT7,hO.wo,by omega,fun tu2 wd2 lm2 hs ms2 H8 g8 hT8 hkey hmd=>?_⟩
  have hO2:TurnOk ms2 { T with ks:=hs }:=hO.of hkey hmd
  obtain ⟨T2,hT2⟩ : ∃ T2:Tu,T2={ T with ks:=hs }:=⟨_,rfl⟩
  have hrow2:QW T2.ks=QW T.ks:=by rw [hT2];exact Ny hkey
  have hk02:T2.k0=T.k0:=by rw [hT2]
  have hst2:T2.start=T.start:=by rw [hT2]
  have hms2:T2.ms=T.ms:=by rw [hT2]
  have hrl2:ruleK T2.ks=ruleK T.ks:=by rw [hT2];exact Lg hkey
  have hTB2:TBd T2:=by
    intro md hmd' u hu
    rw [hms2] at hmd'
    exact hTB md hmd' u hu
  have hm2l:ms2.length≤10:=by
    have:=congrArg List.length hmd
    rw [List.length_map,List.length_map] at this
    omega
  have hksT2:T2.ks.map Zd=T.ks.map Zd:=by rw [hT2];exact hkey
  rw [← hT2] at hT8 hO2
  clear hT2
  have g08:=g13.trans (g67.trans g8)
  have hB8:=hB7.same g8
  have hbel8:=hbel.same Ua g8
  have hT8':=hT7.same g8
  have g68:=g7.trans g8
  have htr8:=htr.mono fun _ _=>g68.seqT
  have hlt8:=g68.seq hlt
  have hus8:=hus.mono fun _ _=>g68.seqT
  have hN8:=hN6.same g68
  have hS8:=g08.seq hS
  have tb8:Tb3 A1 A2 A3 H8:=⟨.inl (g08 _ _ ht1),.inl (g08 _ _ ht2),.inl (g08 _ _ ht3)⟩
  have hti':isT (QW T.ks) t0 T.k0=true:=by rw [hTk,hT0];exact hti
  have hti2:isT (QW T2.ks) t0 T2.k0=true:=by rw [hrow2,hk02];exact hti'
  have ask2:Ask K H8 tu2 wd2 lm2 sv ms2 T2 tv t0:=⟨hT8,hO2,hTB2,hm2l,htr8,by omega⟩
  have ask1:Ask K H8 tu lw lm sv ms T tv t0:=⟨hT8',hO,hTB,by omega,htr8,by omega⟩
  have ev:QN (fun l xs=>opP l 0 xs) (cvT opP (0,0) T (upT t0)) T.start=valT opP (0,0) T T.start (upT t0):=rfl
  have hFil:∀ (j:Nat) e n t,es[j]?=some e→ns[j]?=some n→ts[j]?=some t→Fil K H8 T e.2 n.kd t T.ms.length:=fun j e n t h1 h2 h3=>(hW7.hi j e n t (Nat.zero_le _) h1 h2 h3).mono (Mo.of g8)
  have mo:∀ {Hx:Hp},SX3 A1 A2 A3 H8 Hx→Mo K H8 Hx:=fun x=>tb8.mo x
  have hB:∀ {Hx:Hp},SX3 A1 A2 A3 H8 Hx→Tbs H6 Hx lx es:=fun x=>hB8.sx3 tb8 x
  have hWx:∀ {Hx:Hp},SX3 A1 A2 A3 H8 Hx→Whl K Hx T es ns ts 0:=fun x=>⟨hW7.len,hW7.lo,fun j e n t h0 h1 h2 h3=>(hFil j e n t h1 h2 h3).mono (mo x)⟩
  have hbx:∀ {Hx:Hp},SX3 A1 A2 A3 H8 Hx→BelAt (RP K) Hx [e0.1] (cvT opP (0,0) T (upT t0)) (cls T.start):=fun x=>Ue (hB x) (hWx x) he0 hn0 ht0 (by rw [hnk,hT0]) (by rw [hTm,hT0,hTs];exact hTF.fit)
  have eat:atI (es.map fun e=>V.ref e.1) 0=some (.ref e0.1):=Qv (j:=0) (by rw [List.getElem?_map,he0];rfl)
  have hls2:lv T2.start≤8:=by rw [hst2];exact hls
  have hss2:sz T2.start≤100:=by rw [hst2];exact hss
  have hstV:∀ {Hx:Hp},SX3 A1 A2 A3 H8 Hx→TmV K Hx sv T.start:=fun x=>hT8'.s.mono (mo x).t
  refine ⟨_,rfl,lt,_,_,tv,rfl,rfl,hlt8,hatt,?_⟩
  refine ⟨_,rfl,_,rfl,_,rfl,tu,_,1,_,rfl,rfl,hT8'.tu,rfl,_,rfl,lx,_,_,_,rfl,rfl,SqL.of hB8.l,eat,(by show 1≤sizeLine;decide),fun lb' hlb'=>?_⟩
  have k9:=Qf hlb' (.lst [.ref e0.1])
  refine ⟨sv,T.start,lb',[e0.1],_,rfl,hT8'.s.mono fun _ _=>k9.seqT,hls,SqL.of Qb,hbel8.same Ua k9,fun v' H9 g9 hv'=>?_⟩
  rw [ev,X1] at hv'
  obtain ⟨fp,rfl,hfp⟩:=hv'
  have x9:SX3 A1 A2 A3 H8 H9:=SX3.of (k9.trans g9)
  have tb9:=tb8.same (k9.trans g9)
  have hfp2:SqT K H9 fp [.int ((valT opM 0 T2 T2.start (upT t0):Nat):Int),.int ((valT opT 0 T2 T2.start (upT t0):Nat):Int)]:=by
    rw [Xz hrl2 hms2,Xz hrl2 hms2,hst2];exact hfp
  refine ⟨_,rfl,tu,_,1,_,rfl,rfl,(mo x9).t _ _ hT8'.tu,rfl,tu2,wd2,lm2,sv,ms2,T2,tv,t0,.non,T2.start,fp,sv,rfl,ask2.mo (mo x9),tb9,.start hls2 hss2 (by rw [hk02];exact hr0) hti2,hfp2,by rw [hst2];exact hstV x9,St.start hO2.ok hti2,hls2,htlv,fun H10 x10' tb10=>⟨_,rfl,Zu ?_⟩⟩
  have x10:=x9.trans x10'
  clear x10' x9 tb9 hfp hfp2 k9 g9 hlb' hbel8 hbel
  refine ⟨_,rfl,a,cs,3,rfl,by decide,(mo x10).l _ _ hS8,fun c3=>⟨c3,77,rfl,by decide,by decide,fun x y0 y1=>⟨_,rfl,lnod,_,rfl,.inl ((mo x10).l _ _ hN8.l),_,_,rfl,rfl,(by rw [List.length_map];omega),?_⟩⟩⟩
  obtain ⟨sp,hsp,hspl⟩ : ∃ sp:Nat,x % (((NR ns).length:Nat):Int)=(sp:Int)∧sp < ns.length:=by
    rw [List.length_map]
    have z0:0≤x % ((ns.length:Nat):Int):=Int.emod_nonneg _ (by omega)
    have z1:x % ((ns.length:Nat):Int) < ((ns.length:Nat):Int):=Int.emod_lt_of_pos _ (by omega)
    exact ⟨_,(Int.toNat_of_nonneg z0).symm,by omega⟩
  rw [show (fun i j=>V.int (i % j)) x (((NR ns).length:Nat):Int)=V.int (sp:Int) from congrArg V.int hsp]
  obtain ⟨n1,hn1⟩ : ∃ n1,ns[sp]?=some n1:=⟨_,List.getElem?_eq_getElem hspl⟩
  obtain ⟨t1,ht1'⟩ : ∃ t1,ts[sp]?=some t1:=⟨_,List.getElem?_eq_getElem (by rw [htl];exact hspl)⟩
  obtain ⟨e1,he1⟩ : ∃ e1,es[sp]?=some e1:=⟨_,List.getElem?_eq_getElem (by rw [hW7.len];exact hspl)⟩
  obtain ⟨tv1,htv1,htr1⟩:=hus8.get ht1'
  obtain ⟨hi1,hl1',_⟩:=hok sp n1 t1 hn1 ht1'
  have mml:(ms.map fun m=>V.ref m.1).length=ms.length:=List.length_map ..
  refine ⟨_,rfl,tu,_,2,_,rfl,rfl,(mo x10).t _ _ hT8'.tu,rfl,lm,_,rfl,.inl ((mo x10).l _ _ hT8'.m.1),_,rfl,(by rw [mml];omega),(by rw [mml];omega),?_⟩
  rw [mml]
  refine Zs (lo:=0) (n:=ms.length) (fun i σ H'=>∃ c10:Option V,σ=[some (.ref a),some (.ref ln),some (.ref lw),some (.ref tu),some (.ref lnod),some (.ref lt),some (.ref lx),some (.ref tu2),some tv,some (.int (sp:Int)),c10]∧SX3 A1 A2 A3 H8 H'∧Tb3 A1 A2 A3 H')
    ⟨none,rfl,x10,tb10⟩ ?_ ?_
  · rintro i σ H11 hi ⟨c10,rfl,x11,tb11⟩
    have ez:(0:Int)+(i:Int)=(i:Int):=by omega
    rw [ez]
    have hmi:ms[i]?=some ms[i]:=List.getElem?_eq_getElem hi
    have hmA:=hT8'.m.2 ms[i] (List.getElem_mem hi)
    have hat:atI (ms.map fun m=>V.ref m.1) (i:Int)=some (.ref ms[i].1):=Qv (by rw [List.getElem?_map,hmi];rfl)
    have hatn:atI (NR ns) (sp:Int)=some (.ref n1.a):=Qv (by rw [List.getElem?_map,hn1];rfl)
    have hate:atI (es.map fun e=>V.ref e.1) (sp:Int)=some (.ref e1.1):=Qv (by rw [List.getElem?_map,he1];rfl)
    refine ⟨_,rfl,tu,_,2,_,rfl,rfl,(mo x11).t _ _ hT8'.tu,rfl,_,rfl,lm,_,_,_,rfl,rfl,(mo x11).l _ _ hT8'.m.1,hat,ms[i].1,_,0,_,rfl,rfl,(mo x11).t _ _ hmA.1,rfl,_,rfl,_,rfl,lnod,_,_,_,rfl,rfl,(mo x11).l _ _ hN8.l,hatn,n1.a,_,_,_,rfl,rfl,(mo x11).l _ _ (hN8.a sp n1 hn1),Qv (j:=0) rfl,rfl,_,rfl,Y8 (fun c=>?_) (fun c=>⟨_,rfl,x11,tb11⟩)⟩
    have ck:ms[i].2.1=n1.kd:=V.str.inj (of_decide_eq_true c)
    have hTmi:T.ms[i]?=some ms[i].md:=by rw [hTm,List.getElem?_map,hmi];rfl
    obtain ⟨v1,hv1,hp1⟩:=(hFil sp e1 n1 t1 he1 hn1 ht1').mono (mo x11) i ms[i].md (List.getElem?_eq_some_iff.mp hTmi).1 hTmi ck
    obtain ⟨f1,rfl,hf1⟩:=hp1
    rw [Jj] at hf1
    obtain ⟨m2,hm2,em2,_⟩:=hO2.get (i:=i) (by rw [hms2];exact hTmi)
    have ek2:m2.2.1=ms[i].2.1:=congrArg (fun d:Md=>d.1) em2
    refine ⟨_,rfl,_,rfl,_,rfl,_,rfl,lt,_,_,_,rfl,rfl,(mo x11).l _ _ hlt8,Qv htv1,_,rfl,_,rfl,lx,_,_,_,rfl,rfl,SqL.of (hB x11).l,hate,_,rfl,e1.1,.ref f1,rfl,.inl ⟨_,.inl (i:Int),.inl ((hB x11).at' _ _ he1),rfl,hv1.symm⟩,_,rfl,(by show 3≤sizeLine;decide),fun pc hpc=>?_⟩
    have k12:=Qf hpc (.tup [.str CALL,.int (i:Int),.int 0])
    have b12:upd H11 pc (.tup [.str CALL,.int (i:Int),.int 0]) pc=some (.tup [.str CALL,.int (i:Int),.int 0]):=Qb
    generalize upd H11 pc (.tup [.str CALL,.int (i:Int),.int 0])=H12 at k12 b12 ⊢
    have x12:=x11.trans (SX3.of k12)
    have ask1':Ask K H8 tu2 wd2 lm2 sv ms2 T2 tv1 t1:=⟨hT8,hO2,hTB2,hm2l,htr1,by omega⟩
    have his:isT (QW T2.ks) t1 m2.2.1=true:=by rw [hrow2,ek2,ck,hTk];exact hi1
    have hf2:SqT K H12 f1 [.int ((valT opM 0 T2 (Ze (i:Int) 0) (upT t1):Nat):Int),.int ((valT opT 0 T2 (Ze (i:Int) 0) (upT t1):Nat):Int)]:=by
      rw [Xz hrl2 hms2,Xz hrl2 hms2]
      exact k12.seqT hf1
    refine ⟨tu2,wd2,lm2,sv,ms2,T2,tv1,t1,.int (i:Int),Ze (i:Int) 0,f1,.ref pc,rfl,ask1'.mo (mo x12),tb11.same k12,.mode hm2 (by rw [ek2];exact hrm _ (List.getElem_mem hi)) his,hf2,.call (SqT.of b12),St.mode (md:=m2.md) (by omega) (by rw [Int.toNat_natCast,hms2,hTmi,em2]) his,by simp [Ze,TM.lv,lvs],hl1',fun H13 x13 tb13=>⟨_,rfl,Zu ⟨_,rfl,x12.trans x13,tb13⟩⟩⟩
  rintro σ H11 ⟨c10,rfl,x11,tb11⟩
  have hdd:UR T2.ks T2.start ms2=UR T.ks T.start ms:=by
    show PyData.tuple [.list ((T2.ks.map Zd).map ZP),tmd T2.start,.list ((mds ms2).map mdd)]=_
    rw [hksT2,hst2,hmd]
  have hrd2:=VB ((mo x11).turn hT8)
  rw [hdd] at hrd2
  have hrd1:=VB ((mo x11).turn hT8')
  have hl:(UR T.ks T.start ms).canLay0=true:=by rw [hTk,hTs];exact tl1
  have hd:(UR T.ks T.start ms).depth≤20:=by rw [hTk,hTs];exact tl2
  refine ⟨_,rfl,_,rfl,_,_,hrd2,hrd1,hl,hl,room _ (Nat.le_trans (Nat.min_le_left _ _) (by omega)),_,rfl,?_⟩
  rw [if_pos rfl,UC _ hl]
  refine Zu ?_
  refine ⟨_,rfl,_,rfl,_,rfl,tu,_,1,_,rfl,rfl,(mo x11).t _ _ hT8'.tu,rfl,_,rfl,lx,_,_,_,rfl,rfl,SqL.of (hB x11).l,eat,(by show 1≤sizeLine;decide),fun lb' hlb'=>?_⟩
  have k9:=Qf hlb' (.lst [.ref e0.1])
  refine ⟨sv,T.start,lb',[e0.1],_,rfl,(hstV x11).mono fun _ _=>k9.seqT,hls,SqL.of Qb,(hbx x11).same Ua k9,fun v' H9 g9 hv'=>?_⟩
  rw [ev,X1] at hv'
  obtain ⟨fp,rfl,hfp⟩:=hv'
  have x9:=x11.trans (SX3.of (k9.trans g9))
  exact ⟨_,rfl,tu,_,1,_,rfl,rfl,(mo x9).t _ _ hT8'.tu,rfl,tu,lw,lm,sv,ms,T,tv,t0,.non,T.start,fp,sv,rfl,ask1.mo (mo x9),tb11.same (k9.trans g9),.start hls hss hr0 hti',hfp,hstV x9,St.start hO.ok hti',hls,htlv,fun H14 _ _=>q H14⟩
end
end K22
namespace L2
theorem ln1 {α:Type} {us:List α} (h:us.length=1):∃ a,us=[a]:=List.length_eq_one_iff.mp h
theorem ln2 {α:Type} {us:List α} (h:us.length=2):∃ a b,us=[a,b]:=by
  match us,h with
  | [a,b],_=>exact ⟨a,b,rfl⟩
theorem ln3 {α:Type} {us:List α} (h:us.length=3):∃ a b c,us=[a,b,c]:=by
  match us,h with
  | [a,b,c],_=>exact ⟨a,b,c,rfl⟩
theorem ln4 {α:Type} {us:List α} (h:us.length=4):∃ a b c d,us=[a,b,c,d]:=by
  match us,h with
  | [a,b,c,d],_=>exact ⟨a,b,c,d,rfl⟩
theorem ln5 {α:Type} {us:List α} (h:us.length=5):∃ a b c d e,us=[a,b,c,d,e]:=by
  match us,h with
  | [a,b,c,d,e],_=>exact ⟨a,b,c,d,e,rfl⟩
theorem ln6 {α:Type} {us:List α} (h:us.length=6):∃ a b c d e f,us=[a,b,c,d,e,f]:=by
  match us,h with
  | [a,b,c,d,e,f],_=>exact ⟨a,b,c,d,e,f,rfl⟩
end L2
namespace K22
open PySem L2
theorem all_mk {c1 T1:Addr} {c2 T2:Addr} {c3 T3:Addr} {l:PySem.W.OpenLaw} {w:World} {K:PySem.W.Frag} {h:Heap} {mg:Str→Option Value} {fa:Addr} (X:K.In h) (N:h.Ns mainGlobals mg) (hfa:mg "law" = some (.ref fa))
    (d1:DefAt K "is_call" Ot) (d2:DefAt K "calls_of" sCO) (d3:DefAt K "mark_put" sMP) (d4:DefAt K "rows_of" Xp) (d5:DefAt K "row_of" WW) (d6:DefAt K "is_of" X5) (d7:DefAt K "need_of" Ut) (d8:DefAt K "need_in" Uw) (d9:DefAt K "rule_of" Lv) (d10:DefAt K "outcome" OP) (d11:DefAt K "above" WD) (d12:DefAt K "reckoned" UH) (d13:DefAt K "called_below" GI) (d14:DefAt K "filled" UP) (d15:DefAt K "many_by" Yi) (d16:DefAt K "tall_by" Ym) (d17:DefAt K "turned" Uu) (d18:DefAt K "turned_in" Yl) (d19:DefAt K "turned_by" Zt) (d20:DefAt K "_law_cell_at" GO) (d21:DefAt K "_law_mixed" WC) (d22:DefAt K "_law_names" WJ) (d23:DefAt K "_law_great" WX) (d24:DefAt K "_law_wood" Va) (d25:DefAt K "_law_term" Jy) (d26:DefAt K "_law_calls" WB) (d27:DefAt K "_law_turning" Jg) (d28:DefAt K "_law_mark" LS) (d29:DefAt K "_law_grown" U5) (d30:DefAt K "_law_built" U0) (d31:DefAt K "_law_rule" Wt) (d32:DefAt K "_law_made" XE) (d33:DefAt K "_law_measure" Wg) (d34:DefAt K "_law_tables" Gz) (d35:DefAt K "_law_whole" WU) (d36:DefAt K "_law_alike" UJ) (d37:DefAt K "_law_copy" G8) (d38:DefAt K "_law_answer" Oc) (d39:DefAt K "_law_right" WE) (d40:DefAt K "law" X0)
    (z1:PySem.W.nsIn K mainGlobals "len" = some none) (z2:PySem.W.nsIn K mainGlobals "isinstance" = some none) (z3:PySem.W.nsIn K mainGlobals "int" = some none) (z4:PySem.W.nsIn K mainGlobals "bool" = some none) (z5:PySem.W.nsIn K mainGlobals "str" = some none) (z6:PySem.W.nsIn K mainGlobals "tuple" = some none) (z7:PySem.W.nsIn K mainGlobals "list" = some none) (z8:PySem.W.nsIn K mainGlobals "range" = some none) (z9:PySem.W.nsIn K mainGlobals "zip" = some none) (z10:PySem.W.nsIn K mainGlobals "dict" = some none) (z11:PySem.W.nsIn K mainGlobals "all" = some none) (z12:PySem.W.nsIn K mainGlobals "sorted" = some none) (z13:PySem.W.nsIn K mainGlobals "reversed" = some none) (z14:PySem.W.nsIn K mainGlobals "sum" = some none) (z15:PySem.W.nsIn K mainGlobals "max" = some none)   (ht1:PySem.W.tabIn K "many_by" = some (c1,T1)) (hh1:PySem.W.codeHdIn K c1 T1=true) (ht2:PySem.W.tabIn K "tall_by" = some (c2,T2)) (hh2:PySem.W.codeHdIn K c2 T2=true) (ht3:PySem.W.tabIn K "turned_by" = some (c3,T3)) (hh3:PySem.W.codeHdIn K c3 T3=true) (ne12:T1≠T2) (ne13:T1≠T3) (ne23:T2≠T3) {CN CG:Addr} {tk1 tk2:Tok} (gN:PySem.W.nsIn K mainGlobals "NoTree" = some (some (.ref CN))) (gG:PySem.W.nsIn K mainGlobals "TooGreat" = some (some (.ref CG))) (qN:PySem.W.excIn K CN Wl "ValueError.__new__" = true) (qG:PySem.W.excIn K CG Wl "ValueError.__new__" = true) (kG:PySem.W.ktsIn K CG "BaseException" = true) (g4:PySem.W.nsIn K mainGlobals "MOST_NAMES" = some (some (.int 400 tk1))) (g6:PySem.W.nsIn K mainGlobals "MOST_LEVELS" = some (some (.int 60 tk2))) :
    ∃ fd:FuncData,(∀ (s:Shared) (v:Value),BindsTo s fd ⟨[v],[]⟩ [("_law_script", v)])∧∀ base:Heap,K.In base→base.Ns mainGlobals mg→U4 mg base→FnOk l.prog w K mg base CX0 141 fa fd ["_law_script"] (Vk K T1 T2 T3):=by
  have G:Gm mg:=⟨PySem.W.mg_none_of X N z1,PySem.W.mg_none_of X N z2,PySem.W.mg_none_of X N z3,PySem.W.mg_none_of X N z4,PySem.W.mg_none_of X N z5,PySem.W.mg_none_of X N z6,PySem.W.mg_none_of X N z7,PySem.W.mg_none_of X N z8,PySem.W.mg_none_of X N z9,PySem.W.mg_none_of X N z10,PySem.W.mg_none_of X N z11,PySem.W.mg_none_of X N z12,PySem.W.mg_none_of X N z13,PySem.W.mg_none_of X N z14,PySem.W.mg_none_of X N z15⟩
  obtain ⟨f,oc,od,kV,doc,pm,an,cdv,ct,osl,a,lk,c,kp⟩:=d40.ex
  have e:=hfa.symm.trans (PySem.W.mg_of X N a)
  cases e
  have F:=QS (st:=X0) lk c kp
  refine ⟨PySem.W.fnOf "law" "law" (defArgs X0) (defBody X0) (defScope X0) .none kV doc pm an cdv ct,fun s v=>.of_eq rfl,fun base _ _ hB=>?_⟩
  have r1:Fn l.prog w K mg base 1 "is_call" ["term"] (Jr K):=d1.fn X N (fun f fd F=>Of F) fun _ _ _ _ _ _ us hl=>by obtain ⟨a1,rfl⟩:=ln1 hl;rfl
  have r8:Fn l.prog w K mg base 1 "mark_put" ["term", "mark"] (OU K):=d3.fn X N (fun f fd F=>OV F) fun _ _ _ _ _ _ us hl=>by obtain ⟨a1,a2,rfl⟩:=ln2 hl;rfl
  have r2:Fn l.prog w K mg base 1 "rows_of" ["wood", "kind"] (YR K):=d4.fn X N (fun f fd F=>V2 F G) fun _ _ _ _ _ _ us hl=>by obtain ⟨a1,a2,rfl⟩:=ln2 hl;rfl
  have r3:Fn l.prog w K mg base 2 "row_of" ["wood", "kind", "name"] (Uy K):=d5.fn X N (fun f fd F=>L6 F G r2) fun _ _ _ _ _ _ us hl=>by obtain ⟨a1,a2,a3,rfl⟩:=ln3 hl;rfl
  have r4:Fn l.prog w K mg base 42 "is_of" ["wood", "kind", "tree"] (Yb K 40):=by
    obtain ⟨f,oc,od,kV,doc,pm,an,cdv,ct,osl,a,lk,c,kp⟩:=d6.ex
    have F:=QS (st:=X5) lk c kp
    have hb:Binds K _ ["wood", "kind", "tree"] []:=F.binds fun _ _ _ _ _ _ us hl=>by obtain ⟨a1,a2,a3,rfl⟩:=ln3 hl;rfl
    exact ⟨f,_,Wc F G r3 hb (PySem.W.mg_of X N a) 40,hb,kp,PySem.W.mg_of X N a⟩
  have r5:Fn l.prog w K mg base 2 "rule_of" ["turning", "mode", "name"] (W3 K):=d9.fn X N (fun f fd F=>M5 F G r2) fun _ _ _ _ _ _ us hl=>by obtain ⟨a1,a2,a3,rfl⟩:=ln3 hl;rfl
  have r6:Fn l.prog w K mg base 1 "_law_cell_at" ["_law_script", "_law_k"] (Xy K):=d20.fn X N (fun f fd F=>Nx F G) fun _ _ _ _ _ _ us hl=>by obtain ⟨a1,a2,rfl⟩:=ln2 hl;rfl
  have r7:Fn l.prog w K mg base 1 "_law_whole" ["_law_found"] Uq:=d35.fn X N (fun f fd F=>LF F G) fun _ _ _ _ _ _ us hl=>by obtain ⟨a1,rfl⟩:=ln1 hl;rfl
  have r12:Fn l.prog w K mg base 1 "above" ["tree"] (Xu K):=d11.fn X N (fun f fd F=>Mv F) fun _ _ _ _ _ _ us hl=>by obtain ⟨a1,rfl⟩:=ln1 hl;rfl
  have r17:Fn l.prog w K mg base 1 "_law_mixed" ["_law_cell", "_law_k"] Zi:=d21.fn X N (fun f fd F=>LY F) fun _ _ _ _ _ _ us hl=>by obtain ⟨a1,a2,rfl⟩:=ln2 hl;rfl
  have r18:Fn l.prog w K mg base 1 "_law_great" ["_law_cell"] YO:=d23.fn X N (fun f fd F=>Lk F) fun _ _ _ _ _ _ us hl=>by obtain ⟨a1,rfl⟩:=ln1 hl;rfl
  have r19:Fn l.prog w K mg base 2 "_law_mark" ["_law_cell", "_law_number"] WO:=d28.fn X N (fun f fd F=>M9 F r18) fun _ _ _ _ _ _ us hl=>by obtain ⟨a1,a2,rfl⟩:=ln2 hl;rfl
  have r22:Fn l.prog w K mg base 1 "_law_rule" ["_law_turning_here", "_law_mode", "_law_name"] (YC K):=d31.fn X N (fun f fd F=>GT F G) fun _ _ _ _ _ _ us hl=>by obtain ⟨a1,a2,a3,rfl⟩:=ln3 hl;rfl
  have r24:Fn l.prog w K mg base 2 "_law_names" ["_law_cell"] (Xq K):=d22.fn X N (fun f fd F=>Ma F G r17) fun _ _ _ _ _ _ us hl=>by obtain ⟨a1,rfl⟩:=ln1 hl;rfl
  have r25:Fn l.prog w K mg base 1 "_law_calls" ["_law_branches", "_law_owners"] (J3 K):=d26.fn X N (fun f fd F=>LO F G) fun _ _ _ _ _ _ us hl=>by obtain ⟨a1,a2,rfl⟩:=ln2 hl;rfl
  have r26:Fn l.prog w K mg base 4 "_law_term" ["_law_cell", "_law_k", "_law_deep", "_law_calls_here", "_law_names_here", "_law_keep"] (Yv K 3):=by
    obtain ⟨f,oc,od,kV,doc,pm,an,cdv,ct,osl,a,lk,c,kp⟩:=d25.ex
    have F:=QS (st:=Jy) lk c kp
    have hb:Binds K _ ["_law_cell", "_law_k", "_law_deep", "_law_calls_here", "_law_names_here", "_law_keep"] []:=F.binds fun _ _ _ _ _ _ us hl=>by obtain ⟨a1,a2,a3,a4,a5,a6,rfl⟩:=ln6 hl;rfl
    exact ⟨f,_,XH F G r17 r18 hb (PySem.W.mg_of X N a) 3,hb,kp,PySem.W.mg_of X N a⟩
  have r27:Fn l.prog w K mg base 2 "_law_wood" ["_law_cell", "_law_names_here"] (WH K):=d24.fn X N (fun f fd F=>Nb F G r17) fun _ _ _ _ _ _ us hl=>by obtain ⟨a1,a2,rfl⟩:=ln2 hl;rfl
  have r28:Fn l.prog w K mg base 5 "_law_turning" ["_law_script", "_law_wood_here", "_law_names_here"] (Y5 K):=d27.fn X N (fun f fd F=>WS F G r6 r17 r25 r26) fun _ _ _ _ _ _ us hl=>by obtain ⟨a1,a2,a3,rfl⟩:=ln3 hl;rfl
  have r29:Fn l.prog w K mg base 3 "_law_grown" ["_law_wood_here", "_law_cells", "_law_top"] (Xo K):=d29.fn X N (fun f fd F=>GN F G r17 r19) fun _ _ _ _ _ _ us hl=>by obtain ⟨a1,a2,a3,rfl⟩:=ln3 hl;rfl
  have r30:Fn l.prog w K mg base 2 "_law_built" ["_law_wood_here", "_law_nodes"] (Xx K):=d30.fn X N (fun f fd F=>LP F G r17) fun _ _ _ _ _ _ us hl=>by obtain ⟨a1,a2,rfl⟩:=ln2 hl;rfl
  have r31:Fn l.prog w K mg base 1 "_law_copy" ["_law_turning_here"] (WR K):=d37.fn X N (fun f fd F=>Nv F G) fun _ _ _ _ _ _ us hl=>by obtain ⟨a1,rfl⟩:=ln1 hl;rfl
  have c1:Fn l.prog w K mg base 9 "calls_of" ["term"] (W1 K 8):=by
    obtain ⟨f,oc,od,kV,doc,pm,an,cdv,ct,osl,a,lk,c,kp⟩:=d2.ex
    have F:=QS (st:=sCO) lk c kp
    have hb:Binds K _ ["term"] []:=F.binds fun _ _ _ _ _ _ us hl=>by obtain ⟨a1,rfl⟩:=ln1 hl;rfl
    exact ⟨f,_,LJ F G r1 hb (PySem.W.mg_of X N a) 8,hb,kp,PySem.W.mg_of X N a⟩
  have c2:Fn l.prog w K mg base 10 "called_below" ["turning", "rules", "tree"] (MO K):=d13.fn X N (fun f fd F=>Ps F G c1 r5) fun _ _ _ _ _ _ us hl=>by obtain ⟨a1,a2,a3,rfl⟩:=ln3 hl;rfl
  have m1:Fn l.prog w K mg base 9 "_law_measure" ["_law_term_here", "_law_below"] (Z5 K 8):=by
    obtain ⟨f,oc,od,kV,doc,pm,an,cdv,ct,osl,a,lk,c,kp⟩:=d33.ex
    have F:=QS (st:=Wg) lk c kp
    have hb:Binds K _ ["_law_term_here", "_law_below"] []:=F.binds fun _ _ _ _ _ _ us hl=>by obtain ⟨a1,a2,rfl⟩:=ln2 hl;rfl
    exact ⟨f,_,XQ F G hb (PySem.W.mg_of X N a) 8,hb,kp,PySem.W.mg_of X N a⟩
  have m2:Fn l.prog w K mg base 10 "_law_tables" ["_law_turning_here", "_law_nodes", "_law_trees"] (WY K):=d34.fn X N (fun f fd F=>MP F G m1 r22) fun _ _ _ _ _ _ us hl=>by obtain ⟨a1,a2,a3,rfl⟩:=ln3 hl;rfl
  have fM:Fn l.prog w K mg base 11 "filled" ["term", "mark", "below", "make"] (Zm K eM RN opM 8):=by
    obtain ⟨f,oc,od,kV,doc,pm,an,cdv,ct,osl,a,lk,c,kp⟩:=d14.ex
    have F:=QS (st:=UP) lk c kp
    have hb:Binds K _ ["term", "mark", "below", "make"] []:=F.binds fun _ _ _ _ _ _ us hl=>by obtain ⟨a1,a2,a3,a4,rfl⟩:=ln4 hl;rfl
    exact ⟨f,_,YH Vy F G r1 (L8 G) hb (PySem.W.mg_of X N a) 8,hb,kp,PySem.W.mg_of X N a⟩
  have kM:Fn l.prog w K mg base 53 "reckoned" ["turning", "rules", "tree", "make"] (ZR K eM RN opM 0 41):=by
    obtain ⟨f,oc,od,kV,doc,pm,an,cdv,ct,osl,a,lk,c,kp⟩:=d12.ex
    have F:=QS (st:=UH) lk c kp
    have hb:Binds K _ ["turning", "rules", "tree", "make"] []:=F.binds fun _ _ _ _ _ _ us hl=>by obtain ⟨a1,a2,a3,a4,rfl⟩:=ln4 hl;rfl
    exact ⟨f,_,YV Vy F G c2 fM hb (PySem.W.mg_of X N a) 41,hb,kp,PySem.W.mg_of X N a⟩
  have oM:Fn l.prog w K mg base 54 "outcome" ["turning", "term", "tree", "make"] (U8 K eM RN opM 0):=d10.fn X N (fun f fd F=>Wx F r12 kM) fun _ _ _ _ _ _ us hl=>by obtain ⟨a1,a2,a3,a4,rfl⟩:=ln4 hl;rfl
  have fT:Fn l.prog w K mg base 11 "filled" ["term", "mark", "below", "make"] (Zm K eT RN opT 8):=by
    obtain ⟨f,oc,od,kV,doc,pm,an,cdv,ct,osl,a,lk,c,kp⟩:=d14.ex
    have F:=QS (st:=UP) lk c kp
    have hb:Binds K _ ["term", "mark", "below", "make"] []:=F.binds fun _ _ _ _ _ _ us hl=>by obtain ⟨a1,a2,a3,a4,rfl⟩:=ln4 hl;rfl
    exact ⟨f,_,YH Vy F G r1 (Li G) hb (PySem.W.mg_of X N a) 8,hb,kp,PySem.W.mg_of X N a⟩
  have kT:Fn l.prog w K mg base 53 "reckoned" ["turning", "rules", "tree", "make"] (ZR K eT RN opT 0 41):=by
    obtain ⟨f,oc,od,kV,doc,pm,an,cdv,ct,osl,a,lk,c,kp⟩:=d12.ex
    have F:=QS (st:=UH) lk c kp
    have hb:Binds K _ ["turning", "rules", "tree", "make"] []:=F.binds fun _ _ _ _ _ _ us hl=>by obtain ⟨a1,a2,a3,a4,rfl⟩:=ln4 hl;rfl
    exact ⟨f,_,YV Vy F G c2 fT hb (PySem.W.mg_of X N a) 41,hb,kp,PySem.W.mg_of X N a⟩
  have oT:Fn l.prog w K mg base 54 "outcome" ["turning", "term", "tree", "make"] (U8 K eT RN opT 0):=d10.fn X N (fun f fd F=>Wx F r12 kT) fun _ _ _ _ _ _ us hl=>by obtain ⟨a1,a2,a3,a4,rfl⟩:=ln4 hl;rfl
  have fR:Fn l.prog w K mg base 11 "filled" ["term", "mark", "below", "make"] (Zm K eR (RT K) opR 8):=by
    obtain ⟨f,oc,od,kV,doc,pm,an,cdv,ct,osl,a,lk,c,kp⟩:=d14.ex
    have F:=QS (st:=UP) lk c kp
    have hb:Binds K _ ["term", "mark", "below", "make"] []:=F.binds fun _ _ _ _ _ _ us hl=>by obtain ⟨a1,a2,a3,a4,rfl⟩:=ln4 hl;rfl
    exact ⟨f,_,YH NN F G r1 (LH G r8) hb (PySem.W.mg_of X N a) 8,hb,kp,PySem.W.mg_of X N a⟩
  have kR:Fn l.prog w K mg base 53 "reckoned" ["turning", "rules", "tree", "make"] (ZR K eR (RT K) opR (.node (S []) 0 []) 41):=by
    obtain ⟨f,oc,od,kV,doc,pm,an,cdv,ct,osl,a,lk,c,kp⟩:=d12.ex
    have F:=QS (st:=UH) lk c kp
    have hb:Binds K _ ["turning", "rules", "tree", "make"] []:=F.binds fun _ _ _ _ _ _ us hl=>by obtain ⟨a1,a2,a3,a4,rfl⟩:=ln4 hl;rfl
    exact ⟨f,_,YV NN F G c2 fR hb (PySem.W.mg_of X N a) 41,hb,kp,PySem.W.mg_of X N a⟩
  have oR:Fn l.prog w K mg base 54 "outcome" ["turning", "term", "tree", "make"] (U8 K eR (RT K) opR (.node (S []) 0 [])):=d10.fn X N (fun f fd F=>Wx F r12 kR) fun _ _ _ _ _ _ us hl=>by obtain ⟨a1,a2,a3,a4,rfl⟩:=ln4 hl;rfl
  have bM:Fn l.prog w K mg base 55 "many_by" ["turning", "term", "tree"] (Gv K T1 eM qM opM):=by
    obtain ⟨f,oc,od,kV,doc,pm,an,cdv,ct,osl,a,lk,c,kp⟩:=d15.ex
    have F:=QS (st:=Yi) lk c kp
    have hb:Binds K _ ["turning", "term", "tree"] []:=F.binds fun _ _ _ _ _ _ us hl=>by obtain ⟨a1,a2,a3,rfl⟩:=ln3 hl;rfl
    exact ⟨f,_,VS F a ht1 hh1 hB oM,hb,kp,PySem.W.mg_of X N a⟩
  have bT:Fn l.prog w K mg base 55 "tall_by" ["turning", "term", "tree"] (Gv K T2 eT qT opT):=by
    obtain ⟨f,oc,od,kV,doc,pm,an,cdv,ct,osl,a,lk,c,kp⟩:=d16.ex
    have F:=QS (st:=Ym) lk c kp
    have hb:Binds K _ ["turning", "term", "tree"] []:=F.binds fun _ _ _ _ _ _ us hl=>by obtain ⟨a1,a2,a3,rfl⟩:=ln3 hl;rfl
    exact ⟨f,_,Gq F a ht2 hh2 hB oT,hb,kp,PySem.W.mg_of X N a⟩
  have x1:FnX l.prog w K mg base 43 "need_of" ["wood", "kind", "tree"] (VG K CN):=by
    obtain ⟨f,oc,od,kV,doc,pm,an,cdv,ct,osl,a,lk,c,kp⟩:=d7.ex
    have F:=QS (st:=Ut) lk c kp
    have hb:Binds K _ ["wood", "kind", "tree"] []:=F.binds fun _ _ _ _ _ _ us hl=>by obtain ⟨a1,a2,a3,rfl⟩:=ln3 hl;rfl
    exact ⟨⟨f,_,OB F (PySem.W.mg_of X N gN) qN PySem.F.excBase_ValueError (by decide) r4,hb,kp,PySem.W.mg_of X N a⟩⟩
  have x2:FnX l.prog w K mg base 44 "need_in" ["wood", "tree"] (Mz K CN):=by
    obtain ⟨f,oc,od,kV,doc,pm,an,cdv,ct,osl,a,lk,c,kp⟩:=d8.ex
    have F:=QS (st:=Uw) lk c kp
    have hb:Binds K _ ["wood", "tree"] []:=F.binds fun _ _ _ _ _ _ us hl=>by obtain ⟨a1,a2,rfl⟩:=ln2 hl;rfl
    exact ⟨⟨f,_,OQ F x1,hb,kp,PySem.W.mg_of X N a⟩⟩
  have x3:FnX l.prog w K mg base 56 "turned_by" ["turning", "term", "tree"] (Vq K CG T1 T2 T3):=by
    obtain ⟨f,oc,od,kV,doc,pm,an,cdv,ct,osl,a,lk,c,kp⟩:=d19.ex
    have F:=QS (st:=Zt) lk c kp
    have hb:Binds K _ ["turning", "term", "tree"] []:=F.binds fun _ _ _ _ _ _ us hl=>by obtain ⟨a1,a2,a3,rfl⟩:=ln3 hl;rfl
    exact ⟨⟨f,_,N7 F a ht3 hh3 hB (PySem.W.mg_of X N g4) (PySem.W.mg_of X N g6) (PySem.W.mg_of X N gG) qG PySem.F.excBase_ValueError (by decide) ⟨ne12,ne13,ne23⟩ bM bT oR,hb,kp,PySem.W.mg_of X N a⟩⟩
  have x4:FnX l.prog w K mg base 57 "turned" ["turning", "tree"] (Od K CN CG T1 T2 T3):=by
    obtain ⟨f,oc,od,kV,doc,pm,an,cdv,ct,osl,a,lk,c,kp⟩:=d17.ex
    have F:=QS (st:=Uu) lk c kp
    have hb:Binds K _ ["turning", "tree"] []:=F.binds fun _ _ _ _ _ _ us hl=>by obtain ⟨a1,a2,rfl⟩:=ln2 hl;rfl
    exact ⟨⟨f,_,Pj F x2 x3,hb,kp,PySem.W.mg_of X N a⟩⟩
  have x5:FnX l.prog w K mg base 57 "turned_in" ["turning", "mode", "tree"] (W2 K CN CG T1 T2 T3):=by
    obtain ⟨f,oc,od,kV,doc,pm,an,cdv,ct,osl,a,lk,c,kp⟩:=d18.ex
    have F:=QS (st:=Yl) lk c kp
    have hb:Binds K _ ["turning", "mode", "tree"] []:=F.binds fun _ _ _ _ _ _ us hl=>by obtain ⟨a1,a2,a3,rfl⟩:=ln3 hl;rfl
    exact ⟨⟨f,_,MW F x1 x3,hb,kp,PySem.W.mg_of X N a⟩⟩
  have dA:Fn l.prog w K mg base 58 "_law_answer" ["_law_turning_here", "_law_mode", "_law_tree"] (Ll K T1 T2 T3):=d38.fn X N (fun f fd F=>On F (PySem.W.mg_of X N gG) kG x4 x5) fun _ _ _ _ _ _ us hl=>by obtain ⟨a1,a2,a3,rfl⟩:=ln3 hl;rfl
  have dL:Fn l.prog w K mg base 62 "_law_alike" ["_law_found", "_law_due"] (Wy K 61):=by
    obtain ⟨f,oc,od,kV,doc,pm,an,cdv,ct,osl,a,lk,c,kp⟩:=d36.ex
    have F:=QS (st:=UJ) lk c kp
    have hb:Binds K _ ["_law_found", "_law_due"] []:=F.binds fun _ _ _ _ _ _ us hl=>by obtain ⟨a1,a2,rfl⟩:=ln2 hl;rfl
    exact ⟨f,_,Mp F G r7 hb (PySem.W.mg_of X N a) 61,hb,kp,PySem.W.mg_of X N a⟩
  have dM:Fn l.prog w K mg base 139 "_law_made" ["_law_turning_here", "_law_term_here", "_law_read"] (Yw K 138):=by
    obtain ⟨f,oc,od,kV,doc,pm,an,cdv,ct,osl,a,lk,c,kp⟩:=d32.ex
    have F:=QS (st:=XE) lk c kp
    have hb:Binds K _ ["_law_turning_here", "_law_term_here", "_law_read"] []:=F.binds fun _ _ _ _ _ _ us hl=>by obtain ⟨a1,a2,a3,rfl⟩:=ln3 hl;rfl
    exact ⟨f,_,X8 F G r22 hb (PySem.W.mg_of X N a) 138,hb,kp,PySem.W.mg_of X N a⟩
  have dR:Fn l.prog w K mg base 140 "_law_right" ["_law_turning_here", "_law_mode", "_law_tree", "_law_fit", "_law_term_here"] (Xd K T1 T2 T3):=d39.fn X N (fun f fd F=>Ml F dA dL dM) fun _ _ _ _ _ _ us hl=>by obtain ⟨a1,a2,a3,a4,a5,rfl⟩:=ln5 hl;rfl
  exact Ov F G r6 r24 r27 r28 r29 r30 m1 m2 r31 r17 dR
theorem walk {c1 T1:Addr} {c2 T2:Addr} {c3 T3:Addr} {l:PySem.W.OpenLaw} {q:Program} {loose:List Str} {XP:(Str→Option Value)→Heap→Prop} {YP:World→Heap→Prop} {d:DefRec} {K:Params→PySem.W.Frag} (hn:l.most=some 63) (hdf:d.params.defaults=[])
    (hY:∀ (w:World) (h:Heap),YP w h→(K w.params).In h) (tb1:∀ w:World,TabAt q (K w.params) "many_by" c1 T1) (tb2:∀ w:World,TabAt q (K w.params) "tall_by" c2 T2) (tb3:∀ w:World,TabAt q (K w.params) "turned_by" c3 T3) (ne12:T1≠T2) (ne13:T1≠T3) (ne23:T2≠T3)
    (F:∀ (w:World) (mg:Str→Option Value) (fa:Addr) (h:Heap),(K w.params).In h→h.Ns mainGlobals mg→mg d.name=some (.ref fa) →
      ∃ fd:FuncData,(∀ (s:Shared) (u:Value),BindsTo s fd ⟨[u],[]⟩ [("_law_script", u)])∧∀ base:Heap,(K w.params).In base→base.Ns mainGlobals mg→U4 mg base→FnOk l.prog w (K w.params) mg base CX0 141 fa fd ["_law_script"] (Vk (K w.params) T1 T2 T3)) :
    PySem.W.WalkO q loose XP YP l.row.toRowW d [] (fun f vs=>PySem.call f vs) :=
  L2.walk_ofT (n:=63) (k:=141) (x:="_law_script") (tabs:=[("many_by", c1,T1),("tall_by", c2,T2),("turned_by", c3,T3)]) (sp:=fun w=>Vk (K w.params) T1 T2 T3) hn (by decide) hdf ⟨rfl,by decide,by decide⟩ hY (fun w p hp=>by
    simp only [List.mem_cons,List.not_mem_nil,or_false] at hp
    rcases hp with rfl | rfl | rfl
    · exact tb1 w
    · exact tb2 w
    · exact tb3 w) F (fun _ _ a ns hl hS hT=>⟨a,ns,rfl,hS,hl,ne12,ne13,ne23,hT ("many_by", c1,T1) (by simp),hT ("tall_by", c2,T2) (by simp),hT ("turned_by", c3,T3) (by simp),fun _=>rfl⟩)
end K22
section
open PySem
noncomputable def K22.vS (x:String) (n:Nat):Value:=.str (Str.ofString x) n
noncomputable def K22.vR (a:Nat):Value:=.ref a
noncomputable def K22.vI (i:Int) (n:Nat):Value:=.int i n
noncomputable def K22.hE (P:Params) (x:String) (n:Nat) (v:Value):DictEntry:=⟨PyData.keyHash P (Str.ofString x),.str (Str.ofString x) n,v⟩
noncomputable def K22.vN:Value:=.none
noncomputable def K22.vF:Value:=.type "function"
noncomputable def K22.vT:Value:=.bool true
noncomputable def K22.i0:Value:=.int 0 0
noncomputable def K22.i3:Value:=.int 3 0
noncomputable def K22.i1:Value:=.int 181 0
noncomputable def K22.cP (k:Nat):Value:=.str (Str.ofString "/claim/cut.py") k
noncomputable def K22.oT (x:Array Value):Obj:=Obj.mk (Value.type "tuple") none (Data.seq x) #[]
noncomputable def K22.oC (x:Array Value):Obj:=Obj.mk (Value.type "code") none (Data.fields x) #[]
noncomputable def K22.oF (c:Value) (x y:String) (s:Stmt) (k:Nat) (pm cd:Value):Obj:=Obj.mk c none (Data.func (FuncData.mk (Str.ofString x) (Str.ofString y) (L2.defArgs s) (.stmts (L2.defBody s)) (L2.defScope s) k [] Value.none Value.none Value.none pm none cd Value.none 0)) #[]
open K22
noncomputable def K22.oE:Obj:={ cls:=vN,data:=Data.fields #[] }
noncomputable def K22.x3 (P:Params):Obj:=Obj.mk (Value.type "dict") none (Data.dict #[hE P "__name__" 165 (vS "law_turnery_k22_what_is_made" 411),hE P "__doc__" 166 vN,hE P "__package__" 167 vN,hE P "__loader__" 168 (Value.builtin "__main__.__loader__#opaque"),hE P "__spec__" 169 vN,hE P "__annotations__" 170 (vR 6),hE P "__builtins__" 171 (vR 4),hE P "__file__" 173 (cP 172),hE P "__cached__" 174 vN,hE P "is_call" 195 (vR 21),hE P "calls_of" 204 (vR 28),hE P "mark_put" 212 (vR 35),hE P "TurnError" 232 (vR 45),hE P "NoTree" 248 (vR 58),hE P "TooGreat" 264 (vR 70),hE P "rows_of" 274 (vR 79),hE P "row_of" 283 (vR 86),hE P "is_of" 289 (vR 91),hE P "need_of" 298 (vR 98),hE P "need_in" 306 (vR 105),hE P "rule_of" 321 (vR 112),hE P "outcome" 333 (vR 119),hE P "above" 340 (vR 126),hE P "reckoned" 346 (vR 131),hE P "called_below" 352 (vR 136),hE P "filled" 358 (vR 141),hE P "many_by" 369 (vR 148),hE P "tall_by" 378 (vR 155),hE P "MOST_NAMES" 382 (vI 400 381),hE P "MOST_LEVELS" 384 (vI 60 383),hE P "turned" 392 (vR 162),hE P "turned_in" 401 (vR 169),hE P "turned_by" 410 (vR 176),hE P "_law_cell_at" 420 (vR 183),hE P "_law_mixed" 429 (vR 190),hE P "_law_names" 435 (vR 195),hE P "_law_great" 442 (vR 202),hE P "_law_wood" 448 (vR 207),hE P "_law_term" 454 (vR 212),hE P "_law_calls" 460 (vR 217),hE P "_law_turning" 466 (vR 222),hE P "_law_mark" 474 (vR 229),hE P "_law_grown" 480 (vR 234),hE P "_law_built" 486 (vR 239),hE P "_law_rule" 499 (vR 246),hE P "_law_made" 505 (vR 251),hE P "_law_measure" 518 (vR 258),hE P "_law_tables" 524 (vR 263),hE P "_law_whole" 531 (vR 270),hE P "_law_alike" 541 (vR 277),hE P "_law_copy" 547 (vR 282),hE P "_law_answer" 558 (vR 289),hE P "_law_right" 571 (vR 296),hE P "law" 588 (vR 303)] 54) #[]
noncomputable def K22.x20 (P:Params):Obj:=oC #[vS "is_call" 189,vS "is_call" 190,cP 191,vI 2 0,vI 1 0,i0,i0,i3,vR 15,vT,i1,vR 16,vN,vR 17,vR 18,vR 19,vI 193 0,vI 2 0,cP 194]
noncomputable def K22.x21 (P:Params):Obj:=oF vF "is_call" "is_call" (top 1) 3 (vS "turnery.terms" 187) (vR 20)
noncomputable def K22.x24 (P:Params):Obj:=oT #[vS "term" 199,vS "told" 200,vS "part" 201]
noncomputable def K22.x27 (P:Params):Obj:=oC #[vS "calls_of" 196,vS "calls_of" 197,cP 198,vI 4 0,vI 1 0,i0,i0,i3,vR 22,vT,i1,vR 23,vN,vR 24,vR 25,vR 26,vI 202 0,vI 4 0,cP 203]
noncomputable def K22.x28 (P:Params):Obj:=oF vF "calls_of" "calls_of" (top 2) 3 (vS "turnery.terms" 187) (vR 27)
noncomputable def K22.x34 (P:Params):Obj:=oC #[vS "mark_put" 205,vS "mark_put" 206,cP 207,vI 11 0,vI 2 0,i0,i0,i3,vR 29,vT,i1,vR 30,vN,vR 31,vR 32,vR 33,vI 210 0,vI 11 0,cP 211]
noncomputable def K22.x35 (P:Params):Obj:=oF vF "mark_put" "mark_put" (top 3) 3 (vS "turnery.terms" 187) (vR 34)
noncomputable def K22.x44 (P:Params):Obj:=Obj.mk (Value.type "dict") none (Data.dict #[hE P "__module__" 222 (vS "turnery.errors" 213),hE P "__firstlineno__" 226 (vI 14 225),hE P "__static_attributes__" 227 (vR 43),hE P "__weakref__" 229 (vR 46),hE P "__doc__" 230 vN] 3) #[]
noncomputable def K22.x45 (P:Params):Obj:=Obj.mk (Value.type "type") none (Data.cls (ClassData.mk (Str.ofString "TurnError") [Value.type "ValueError"] [vR 45,Value.type "ValueError", Value.type "Exception", Value.type "BaseException", Value.type "object"] 44 (Str.ofString "TurnError") true [] [vR 58,vR 70] false none false)) #[some (vR 36),none,some (vS "TurnError" 215),some (vS "TurnError" 223),some (Value.builtin "ValueError.__new__"),some (Value.bool true)]
noncomputable def K22.x46 (P:Params):Obj:=Obj.mk (Value.type "getset_descriptor") none (Data.fields #[vS "__weakref__" 228,vR 45,Value.builtin "ExceptionGroup.__weakref__", vN]) #[]
noncomputable def K22.x57 (P:Params):Obj:=Obj.mk (Value.type "dict") none (Data.dict #[hE P "__module__" 240 (vS "turnery.errors" 213),hE P "__firstlineno__" 244 (vI 16 243),hE P "__static_attributes__" 245 (vR 56),hE P "__doc__" 246 vN] 2) #[]
noncomputable def K22.x58 (P:Params):Obj:=Obj.mk (Value.type "type") none (Data.cls (ClassData.mk (Str.ofString "NoTree") [vR 45] [vR 58,vR 45,Value.type "ValueError", Value.type "Exception", Value.type "BaseException", Value.type "object"] 57 (Str.ofString "NoTree") true [] [] false none false)) #[some (vR 49),none,some (vS "NoTree" 233),some (vS "NoTree" 241),some (Value.builtin "ValueError.__new__"),some (Value.bool true)]
noncomputable def K22.x69 (P:Params):Obj:=Obj.mk (Value.type "dict") none (Data.dict #[hE P "__module__" 256 (vS "turnery.errors" 213),hE P "__firstlineno__" 260 (vI 18 259),hE P "__static_attributes__" 261 (vR 68),hE P "__doc__" 262 vN] 2) #[]
noncomputable def K22.x70 (P:Params):Obj:=Obj.mk (Value.type "type") none (Data.cls (ClassData.mk (Str.ofString "TooGreat") [vR 45] [vR 70,vR 45,Value.type "ValueError", Value.type "Exception", Value.type "BaseException", Value.type "object"] 69 (Str.ofString "TooGreat") true [] [] false none false)) #[some (vR 61),none,some (vS "TooGreat" 249),some (vS "TooGreat" 257),some (Value.builtin "ValueError.__new__"),some (Value.bool true)]
noncomputable def K22.x78 (P:Params):Obj:=oC #[vS "rows_of" 267,vS "rows_of" 268,cP 269,vI 21 0,vI 2 0,i0,i0,i3,vR 73,vT,i1,vR 74,vN,vR 75,vR 76,vR 77,vI 272 0,vI 21 0,cP 273]
noncomputable def K22.x79 (P:Params):Obj:=oF vF "rows_of" "rows_of" (top 9) 3 (vS "turnery.woods" 265) (vR 78)
noncomputable def K22.x82 (P:Params):Obj:=oT #[vS "wood" 278,vS "kind" 279,vS "name" 280]
noncomputable def K22.x85 (P:Params):Obj:=oC #[vS "row_of" 275,vS "row_of" 276,cP 277,vI 23 0,vI 3 0,i0,i0,i3,vR 80,vT,i1,vR 81,vN,vR 82,vR 83,vR 84,vI 281 0,vI 23 0,cP 282]
noncomputable def K22.x86 (P:Params):Obj:=oF vF "row_of" "row_of" (top 10) 3 (vS "turnery.woods" 265) (vR 85)
noncomputable def K22.x90 (P:Params):Obj:=oC #[vS "is_of" 284,vS "is_of" 285,cP 286,vI 25 0,vI 3 0,i0,i0,i3,vR 87,vT,i1,vR 88,vN,vN,vN,vR 89,vI 287 0,vI 25 0,cP 288]
noncomputable def K22.x91 (P:Params):Obj:=oF vF "is_of" "is_of" (top 11) 3 (vS "turnery.woods" 265) (vR 90)
noncomputable def K22.x94 (P:Params):Obj:=oT #[vS "wood" 293,vS "kind" 294,vS "tree" 295]
noncomputable def K22.x97 (P:Params):Obj:=oC #[vS "need_of" 290,vS "need_of" 291,cP 292,vI 31 0,vI 3 0,i0,i0,i3,vR 92,vT,i1,vR 93,vN,vR 94,vR 95,vR 96,vI 296 0,vI 31 0,cP 297]
noncomputable def K22.x98 (P:Params):Obj:=oF vF "need_of" "need_of" (top 12) 3 (vS "turnery.woods" 265) (vR 97)
noncomputable def K22.x104 (P:Params):Obj:=oC #[vS "need_in" 299,vS "need_in" 300,cP 301,vI 34 0,vI 2 0,i0,i0,i3,vR 99,vT,i1,vR 100,vN,vR 101,vR 102,vR 103,vI 304 0,vI 34 0,cP 305]
noncomputable def K22.x105 (P:Params):Obj:=oF vF "need_in" "need_in" (top 13) 3 (vS "turnery.woods" 265) (vR 104)
noncomputable def K22.x108 (P:Params):Obj:=oT #[vS "turning" 312,vS "mode" 313,vS "name" 314,vS "kind" 315,vS "rules" 316,vS "row" 317,vS "rule" 318]
noncomputable def K22.x111 (P:Params):Obj:=oC #[vS "rule_of" 309,vS "rule_of" 310,cP 311,vI 37 0,vI 3 0,i0,i0,i3,vR 106,vT,i1,vR 107,vN,vR 108,vR 109,vR 110,vI 319 0,vI 37 0,cP 320]
noncomputable def K22.x112 (P:Params):Obj:=oF vF "rule_of" "rule_of" (top 15) 3 (vS "turnery.turnings" 307) (vR 111)
noncomputable def K22.x115 (P:Params):Obj:=oT #[vS "turning" 327,vS "term" 328,vS "tree" 329,vS "make" 330]
noncomputable def K22.x118 (P:Params):Obj:=oC #[vS "outcome" 324,vS "outcome" 325,cP 326,vI 45 0,vI 4 0,i0,i0,i3,vR 113,vT,i1,vR 114,vN,vR 115,vR 116,vR 117,vI 331 0,vI 45 0,cP 332]
noncomputable def K22.x119 (P:Params):Obj:=oF vF "outcome" "outcome" (top 17) 3 (vS "turnery.outcomes" 322) (vR 118)
noncomputable def K22.x125 (P:Params):Obj:=oC #[vS "above" 334,vS "above" 335,cP 336,vI 47 0,vI 1 0,i0,i0,i3,vR 120,vT,i1,vR 121,vN,vR 122,vR 123,vR 124,vI 338 0,vI 47 0,cP 339]
noncomputable def K22.x126 (P:Params):Obj:=oF vF "above" "above" (top 18) 3 (vS "turnery.outcomes" 322) (vR 125)
noncomputable def K22.x130 (P:Params):Obj:=oC #[vS "reckoned" 341,vS "reckoned" 342,cP 343,vI 49 0,vI 4 0,i0,i0,i3,vR 127,vT,i1,vR 128,vN,vN,vN,vR 129,vI 344 0,vI 49 0,cP 345]
noncomputable def K22.x131 (P:Params):Obj:=oF vF "reckoned" "reckoned" (top 19) 3 (vS "turnery.outcomes" 322) (vR 130)
noncomputable def K22.x135 (P:Params):Obj:=oC #[vS "called_below" 347,vS "called_below" 348,cP 349,vI 54 0,vI 3 0,i0,i0,i3,vR 132,vT,i1,vR 133,vN,vN,vN,vR 134,vI 350 0,vI 54 0,cP 351]
noncomputable def K22.x136 (P:Params):Obj:=oF vF "called_below" "called_below" (top 20) 3 (vS "turnery.outcomes" 322) (vR 135)
noncomputable def K22.x140 (P:Params):Obj:=oC #[vS "filled" 353,vS "filled" 354,cP 355,vI 61 0,vI 4 0,i0,i0,i3,vR 137,vT,i1,vR 138,vN,vN,vN,vR 139,vI 356 0,vI 61 0,cP 357]
noncomputable def K22.x141 (P:Params):Obj:=oF vF "filled" "filled" (top 21) 3 (vS "turnery.outcomes" 322) (vR 140)
noncomputable def K22.x144 (P:Params):Obj:=oT #[vS "turning" 364,vS "term" 365,vS "tree" 366]
noncomputable def K22.x147 (P:Params):Obj:=oC #[vS "many_by" 361,vS "many_by" 362,cP 363,vI 66 0,vI 3 0,i0,i0,i3,vR 142,vT,i1,vR 143,vN,vR 144,vR 145,vR 146,vI 367 0,vI 66 0,cP 368]
noncomputable def K22.x148 (P:Params):Obj:=oF vF "many_by" "many_by" (top 23) 3 (vS "turnery.counting" 359) (vR 147)
noncomputable def K22.x151 (P:Params):Obj:=oT #[vS "turning" 373,vS "term" 374,vS "tree" 375]
noncomputable def K22.x154 (P:Params):Obj:=oC #[vS "tall_by" 370,vS "tall_by" 371,cP 372,vI 68 0,vI 3 0,i0,i0,i3,vR 149,vT,i1,vR 150,vN,vR 151,vR 152,vR 153,vI 376 0,vI 68 0,cP 377]
noncomputable def K22.x155 (P:Params):Obj:=oF vF "tall_by" "tall_by" (top 24) 3 (vS "turnery.counting" 359) (vR 154)
noncomputable def K22.x161 (P:Params):Obj:=oC #[vS "turned" 385,vS "turned" 386,cP 387,vI 73 0,vI 2 0,i0,i0,i3,vR 156,vT,i1,vR 157,vN,vR 158,vR 159,vR 160,vI 390 0,vI 73 0,cP 391]
noncomputable def K22.x162 (P:Params):Obj:=oF vF "turned" "turned" (top 28) 3 (vS "turnery.running" 379) (vR 161)
noncomputable def K22.x165 (P:Params):Obj:=oT #[vS "turning" 396,vS "mode" 397,vS "tree" 398]
noncomputable def K22.x168 (P:Params):Obj:=oC #[vS "turned_in" 393,vS "turned_in" 394,cP 395,vI 76 0,vI 3 0,i0,i0,i3,vR 163,vT,i1,vR 164,vN,vR 165,vR 166,vR 167,vI 399 0,vI 76 0,cP 400]
noncomputable def K22.x169 (P:Params):Obj:=oF vF "turned_in" "turned_in" (top 29) 3 (vS "turnery.running" 379) (vR 168)
noncomputable def K22.x172 (P:Params):Obj:=oT #[vS "turning" 405,vS "term" 406,vS "tree" 407]
noncomputable def K22.x175 (P:Params):Obj:=oC #[vS "turned_by" 402,vS "turned_by" 403,cP 404,vI 79 0,vI 3 0,i0,i0,i3,vR 170,vT,i1,vR 171,vN,vR 172,vR 173,vR 174,vI 408 0,vI 79 0,cP 409]
noncomputable def K22.x176 (P:Params):Obj:=oF vF "turned_by" "turned_by" (top 30) 3 (vS "turnery.running" 379) (vR 175)
noncomputable def K22.x179 (P:Params):Obj:=oT #[vS "_law_script" 416,vS "_law_k" 417]
noncomputable def K22.x182 (P:Params):Obj:=oC #[vS "_law_cell_at" 413,vS "_law_cell_at" 414,cP 415,vI 86 0,vI 2 0,i0,i0,i3,vR 177,vT,i1,vR 178,vN,vR 179,vR 180,vR 181,vI 418 0,vI 86 0,cP 419]
noncomputable def K22.x183 (P:Params):Obj:=oF vF "_law_cell_at" "_law_cell_at" (top 32) 3 (vS "law_turnery_k22_what_is_made" 411) (vR 182)
noncomputable def K22.x186 (P:Params):Obj:=oT #[vS "_law_cell" 424,vS "_law_k" 425,vS "_law_number" 426]
noncomputable def K22.x189 (P:Params):Obj:=oC #[vS "_law_mixed" 421,vS "_law_mixed" 422,cP 423,vI 90 0,vI 2 0,i0,i0,i3,vR 184,vT,i1,vR 185,vN,vR 186,vR 187,vR 188,vI 427 0,vI 90 0,cP 428]
noncomputable def K22.x190 (P:Params):Obj:=oF vF "_law_mixed" "_law_mixed" (top 33) 3 (vS "law_turnery_k22_what_is_made" 411) (vR 189)
noncomputable def K22.x194 (P:Params):Obj:=oC #[vS "_law_names" 430,vS "_law_names" 431,cP 432,vI 94 0,vI 1 0,i0,i0,i3,vR 191,vT,i1,vR 192,vN,vN,vN,vR 193,vI 433 0,vI 94 0,cP 434]
noncomputable def K22.x195 (P:Params):Obj:=oF vF "_law_names" "_law_names" (top 34) 3 (vS "law_turnery_k22_what_is_made" 411) (vR 194)
noncomputable def K22.x201 (P:Params):Obj:=oC #[vS "_law_great" 436,vS "_law_great" 437,cP 438,vI 107 0,vI 1 0,i0,i0,i3,vR 196,vT,i1,vR 197,vN,vR 198,vR 199,vR 200,vI 440 0,vI 107 0,cP 441]
noncomputable def K22.x202 (P:Params):Obj:=oF vF "_law_great" "_law_great" (top 35) 3 (vS "law_turnery_k22_what_is_made" 411) (vR 201)
noncomputable def K22.x206 (P:Params):Obj:=oC #[vS "_law_wood" 443,vS "_law_wood" 444,cP 445,vI 109 0,vI 2 0,i0,i0,i3,vR 203,vT,i1,vR 204,vN,vN,vN,vR 205,vI 446 0,vI 109 0,cP 447]
noncomputable def K22.x207 (P:Params):Obj:=oF vF "_law_wood" "_law_wood" (top 36) 3 (vS "law_turnery_k22_what_is_made" 411) (vR 206)
noncomputable def K22.x211 (P:Params):Obj:=oC #[vS "_law_term" 449,vS "_law_term" 450,cP 451,vI 122 0,vI 6 0,i0,i0,i3,vR 208,vT,i1,vR 209,vN,vN,vN,vR 210,vI 452 0,vI 122 0,cP 453]
noncomputable def K22.x212 (P:Params):Obj:=oF vF "_law_term" "_law_term" (top 37) 3 (vS "law_turnery_k22_what_is_made" 411) (vR 211)
noncomputable def K22.x216 (P:Params):Obj:=oC #[vS "_law_calls" 455,vS "_law_calls" 456,cP 457,vI 133 0,vI 2 0,i0,i0,i3,vR 213,vT,i1,vR 214,vN,vN,vN,vR 215,vI 458 0,vI 133 0,cP 459]
noncomputable def K22.x217 (P:Params):Obj:=oF vF "_law_calls" "_law_calls" (top 38) 3 (vS "law_turnery_k22_what_is_made" 411) (vR 216)
noncomputable def K22.x221 (P:Params):Obj:=oC #[vS "_law_turning" 461,vS "_law_turning" 462,cP 463,vI 138 0,vI 3 0,i0,i0,i3,vR 218,vT,i1,vR 219,vN,vN,vN,vR 220,vI 464 0,vI 138 0,cP 465]
noncomputable def K22.x222 (P:Params):Obj:=oF vF "_law_turning" "_law_turning" (top 39) 3 (vS "law_turnery_k22_what_is_made" 411) (vR 221)
noncomputable def K22.x225 (P:Params):Obj:=oT #[vS "_law_cell" 470,vS "_law_number" 471]
noncomputable def K22.x228 (P:Params):Obj:=oC #[vS "_law_mark" 467,vS "_law_mark" 468,cP 469,vI 153 0,vI 2 0,i0,i0,i3,vR 223,vT,i1,vR 224,vN,vR 225,vR 226,vR 227,vI 472 0,vI 153 0,cP 473]
noncomputable def K22.x229 (P:Params):Obj:=oF vF "_law_mark" "_law_mark" (top 40) 3 (vS "law_turnery_k22_what_is_made" 411) (vR 228)
noncomputable def K22.x233 (P:Params):Obj:=oC #[vS "_law_grown" 475,vS "_law_grown" 476,cP 477,vI 155 0,vI 3 0,i0,i0,i3,vR 230,vT,i1,vR 231,vN,vN,vN,vR 232,vI 478 0,vI 155 0,cP 479]
noncomputable def K22.x234 (P:Params):Obj:=oF vF "_law_grown" "_law_grown" (top 41) 3 (vS "law_turnery_k22_what_is_made" 411) (vR 233)
noncomputable def K22.x238 (P:Params):Obj:=oC #[vS "_law_built" 481,vS "_law_built" 482,cP 483,vI 174 0,vI 2 0,i0,i0,i3,vR 235,vT,i1,vR 236,vN,vN,vN,vR 237,vI 484 0,vI 174 0,cP 485]
noncomputable def K22.x239 (P:Params):Obj:=oF vF "_law_built" "_law_built" (top 42) 3 (vS "law_turnery_k22_what_is_made" 411) (vR 238)
noncomputable def K22.x242 (P:Params):Obj:=oT #[vS "_law_turning_here" 490,vS "_law_mode" 491,vS "_law_name" 492,vS "_law_kind" 493,vS "_law_rules" 494,vS "_law_row" 495,vS "_law_rule_here" 496]
noncomputable def K22.x245 (P:Params):Obj:=oC #[vS "_law_rule" 487,vS "_law_rule" 488,cP 489,vI 183 0,vI 3 0,i0,i0,i3,vR 240,vT,i1,vR 241,vN,vR 242,vR 243,vR 244,vI 497 0,vI 183 0,cP 498]
noncomputable def K22.x246 (P:Params):Obj:=oF vF "_law_rule" "_law_rule" (top 43) 3 (vS "law_turnery_k22_what_is_made" 411) (vR 245)
noncomputable def K22.x250 (P:Params):Obj:=oC #[vS "_law_made" 500,vS "_law_made" 501,cP 502,vI 189 0,vI 3 0,i0,i0,i3,vR 247,vT,i1,vR 248,vN,vN,vN,vR 249,vI 503 0,vI 189 0,cP 504]
noncomputable def K22.x251 (P:Params):Obj:=oF vF "_law_made" "_law_made" (top 44) 3 (vS "law_turnery_k22_what_is_made" 411) (vR 250)
noncomputable def K22.x254 (P:Params):Obj:=oT #[vS "_law_term_here" 509,vS "_law_below" 510,vS "_law_total" 511,vS "_law_deep" 512,vS "_law_part" 513,vS "_law_one" 514,vS "_law_other" 515]
noncomputable def K22.x257 (P:Params):Obj:=oC #[vS "_law_measure" 506,vS "_law_measure" 507,cP 508,vI 195 0,vI 2 0,i0,i0,i3,vR 252,vT,i1,vR 253,vN,vR 254,vR 255,vR 256,vI 516 0,vI 195 0,cP 517]
noncomputable def K22.x258 (P:Params):Obj:=oF vF "_law_measure" "_law_measure" (top 45) 3 (vS "law_turnery_k22_what_is_made" 411) (vR 257)
noncomputable def K22.x262 (P:Params):Obj:=oC #[vS "_law_tables" 519,vS "_law_tables" 520,cP 521,vI 205 0,vI 3 0,i0,i0,i3,vR 259,vT,i1,vR 260,vN,vN,vN,vR 261,vI 522 0,vI 205 0,cP 523]
noncomputable def K22.x263 (P:Params):Obj:=oF vF "_law_tables" "_law_tables" (top 46) 3 (vS "law_turnery_k22_what_is_made" 411) (vR 262)
noncomputable def K22.x269 (P:Params):Obj:=oC #[vS "_law_whole" 525,vS "_law_whole" 526,cP 527,vI 213 0,vI 1 0,i0,i0,i3,vR 264,vT,i1,vR 265,vN,vR 266,vR 267,vR 268,vI 529 0,vI 213 0,cP 530]
noncomputable def K22.x270 (P:Params):Obj:=oF vF "_law_whole" "_law_whole" (top 47) 3 (vS "law_turnery_k22_what_is_made" 411) (vR 269)
noncomputable def K22.x273 (P:Params):Obj:=oT #[vS "_law_found" 535,vS "_law_due" 536,vS "_law_one" 537,vS "_law_other" 538]
noncomputable def K22.x276 (P:Params):Obj:=oC #[vS "_law_alike" 532,vS "_law_alike" 533,cP 534,vI 215 0,vI 2 0,i0,i0,i3,vR 271,vT,i1,vR 272,vN,vR 273,vR 274,vR 275,vI 539 0,vI 215 0,cP 540]
noncomputable def K22.x277 (P:Params):Obj:=oF vF "_law_alike" "_law_alike" (top 48) 3 (vS "law_turnery_k22_what_is_made" 411) (vR 276)
noncomputable def K22.x281 (P:Params):Obj:=oC #[vS "_law_copy" 542,vS "_law_copy" 543,cP 544,vI 224 0,vI 1 0,i0,i0,i3,vR 278,vT,i1,vR 279,vN,vN,vN,vR 280,vI 545 0,vI 224 0,cP 546]
noncomputable def K22.x282 (P:Params):Obj:=oF vF "_law_copy" "_law_copy" (top 49) 3 (vS "law_turnery_k22_what_is_made" 411) (vR 281)
noncomputable def K22.x285 (P:Params):Obj:=oT #[vS "_law_turning_here" 551,vS "_law_mode" 552,vS "_law_tree" 553,vS "_law_told" 554,vS "_law_great_here" 555]
noncomputable def K22.x288 (P:Params):Obj:=oC #[vS "_law_answer" 548,vS "_law_answer" 549,cP 550,vI 227 0,vI 3 0,i0,i0,i3,vR 283,vT,i1,vR 284,vN,vR 285,vR 286,vR 287,vI 556 0,vI 227 0,cP 557]
noncomputable def K22.x289 (P:Params):Obj:=oF vF "_law_answer" "_law_answer" (top 50) 3 (vS "law_turnery_k22_what_is_made" 411) (vR 288)
noncomputable def K22.x292 (P:Params):Obj:=oT #[vS "_law_turning_here" 562,vS "_law_mode" 563,vS "_law_tree" 564,vS "_law_fit" 565,vS "_law_term_here" 566,vS "_law_told" 567,vS "_law_great_here" 568]
noncomputable def K22.x295 (P:Params):Obj:=oC #[vS "_law_right" 559,vS "_law_right" 560,cP 561,vI 238 0,vI 5 0,i0,i0,i3,vR 290,vT,i1,vR 291,vN,vR 292,vR 293,vR 294,vI 569 0,vI 238 0,cP 570]
noncomputable def K22.x296 (P:Params):Obj:=oF vF "_law_right" "_law_right" (top 51) 3 (vS "law_turnery_k22_what_is_made" 411) (vR 295)
noncomputable def K22.x299 (P:Params):Obj:=oT #[vS "_law_script" 575,vS "_law_names_here" 576,vS "_law_wood_here" 577,vS "_law_turning_here" 578,vS "_law_nodes" 579,vS "_law_trees" 580,vS "_law_tables_here" 581,vS "_law_handed" 582,vS "_law_tree" 583,vS "_law_spot" 584,vS "_law_mode" 585]
noncomputable def K22.x302 (P:Params):Obj:=oC #[vS "law" 572,vS "law" 573,cP 574,vI 243 0,vI 1 0,i0,i0,i3,vR 297,vT,i1,vR 298,vN,vR 299,vR 300,vR 301,vI 586 0,vI 243 0,cP 587]
noncomputable def K22.x303 (P:Params):Obj:=oF vF "law" "law" (top 52) 3 (vS "law_turnery_k22_what_is_made" 411) (vR 302)
noncomputable def K22.hp:Params→PySem.W.Frag:=fun P=>[(2,Obj.mk vN none (Data.dict #[]) #[]),(3,x3 P),(15,oT #[]),(17,oT #[vS "term" 192]),(18,oT #[]),(20,x20 P),(21,x21 P),(22,oT #[]),(24,x24 P),(25,oT #[]),(27,x27 P),(28,x28 P),(29,oT #[]),(31,oT #[vS "term" 208,vS "mark" 209]),(32,oT #[]),(34,x34 P),(35,x35 P),(36,oT #[Value.type "ValueError"]),(43,oT #[]),(44,x44 P),(45,x45 P),(46,x46 P),(49,oT #[vR 45]),(56,oT #[]),(57,x57 P),(58,x58 P),(61,oT #[vR 45]),(68,oT #[]),(69,x69 P),(70,x70 P),(73,oT #[]),(75,oT #[vS "wood" 270,vS "kind" 271]),(76,oT #[]),(78,x78 P),(79,x79 P),(80,oT #[]),(82,x82 P),(83,oT #[]),(85,x85 P),(86,x86 P),(87,oT #[]),(90,x90 P),(91,x91 P),(92,oT #[]),(94,x94 P),(95,oT #[]),(97,x97 P),(98,x98 P),(99,oT #[]),(101,oT #[vS "wood" 302,vS "tree" 303]),(102,oT #[]),(104,x104 P),(105,x105 P),(106,oT #[]),(108,x108 P),(109,oT #[]),(111,x111 P),(112,x112 P),(113,oT #[]),(115,x115 P),(116,oT #[]),(118,x118 P),(119,x119 P),(120,oT #[]),(122,oT #[vS "tree" 337]),(123,oT #[]),(125,x125 P),(126,x126 P),(127,oT #[]),(130,x130 P),(131,x131 P),(132,oT #[]),(135,x135 P),(136,x136 P),(137,oT #[]),(140,x140 P),(141,x141 P),(142,oT #[]),(144,x144 P),(145,oT #[]),(147,x147 P),(148,x148 P),(149,oT #[]),(151,x151 P),(152,oT #[]),(154,x154 P),(155,x155 P),(156,oT #[]),(158,oT #[vS "turning" 388,vS "tree" 389]),(159,oT #[]),(161,x161 P),(162,x162 P),(163,oT #[]),(165,x165 P),(166,oT #[]),(168,x168 P),(169,x169 P),(170,oT #[]),(172,x172 P),(173,oT #[]),(175,x175 P),(176,x176 P),(177,oT #[]),(179,x179 P),(180,oT #[]),(182,x182 P),(183,x183 P),(184,oT #[]),(186,x186 P),(187,oT #[]),(189,x189 P),(190,x190 P),(191,oT #[]),(194,x194 P),(195,x195 P),(196,oT #[]),(198,oT #[vS "_law_cell" 439]),(199,oT #[]),(201,x201 P),(202,x202 P),(203,oT #[]),(206,x206 P),(207,x207 P),(208,oT #[]),(211,x211 P),(212,x212 P),(213,oT #[]),(216,x216 P),(217,x217 P),(218,oT #[]),(221,x221 P),(222,x222 P),(223,oT #[]),(225,x225 P),(226,oT #[]),(228,x228 P),(229,x229 P),(230,oT #[]),(233,x233 P),(234,x234 P),(235,oT #[]),(238,x238 P),(239,x239 P),(240,oT #[]),(242,x242 P),(243,oT #[]),(245,x245 P),(246,x246 P),(247,oT #[]),(250,x250 P),(251,x251 P),(252,oT #[]),(254,x254 P),(255,oT #[]),(257,x257 P),(258,x258 P),(259,oT #[]),(262,x262 P),(263,x263 P),(264,oT #[]),(266,oT #[vS "_law_found" 528]),(267,oT #[]),(269,x269 P),(270,x270 P),(271,oT #[]),(273,x273 P),(274,oT #[]),(276,x276 P),(277,x277 P),(278,oT #[]),(281,x281 P),(282,x282 P),(283,oT #[]),(285,x285 P),(286,oT #[]),(288,x288 P),(289,x289 P),(290,oT #[]),(292,x292 P),(293,oT #[]),(295,x295 P),(296,x296 P),(297,oT #[]),(299,x299 P),(300,oT #[]),(302,x302 P),(303,x303 P)]
end
noncomputable def PySem.W.Fast.tw1790610905497065904:PySem.Params→PySem.W.Frag:=K22.hp
theorem PySem.W.Fast.te1790610905497065904:K22.hp=PySem.W.Fast.tw1790610905497065904:=rfl
namespace PySem.W.Fast
open PySem K22
noncomputable def tw9798331036449624159:Params→Obj:=fun P=>oF vN "_law_cell_at" "_law_cell_at" (top 32) 0 vN vN
theorem te9798331036449624159:tw9798331036449624159=tw9798331036449624159:=rfl
noncomputable def tw6160504337865963759:Params→Obj:=fun P=>oF vN "_law_made" "_law_made" (top 44) 0 vN vN
theorem te6160504337865963759:tw6160504337865963759=tw6160504337865963759:=rfl
noncomputable def tw12606403083857194710:Params→Obj:=fun P=>oF vF "is_of" "is_of" (top 11) 3 (vS "turnery.woods" 265) (vR 90)
theorem te12606403083857194710:tw12606403083857194710=tw12606403083857194710:=rfl
noncomputable def tw4046533458522349683:Params→Obj:=fun P=>oF vF "_law_right" "_law_right" (top 51) 3 (vS "law_turnery_k22_what_is_made" 411) (vR 295)
theorem te4046533458522349683:tw4046533458522349683=tw4046533458522349683:=rfl
noncomputable def tw1267356640673300214:Params→Obj:=fun P=>oF vN "_law_mixed" "_law_mixed" (top 33) 0 vN vN
theorem te1267356640673300214:tw1267356640673300214=tw1267356640673300214:=rfl
noncomputable def tw11890930883866550513:Params→Obj:=fun P=>oF vN "above" "above" (top 18) 0 vN vN
theorem te11890930883866550513:tw11890930883866550513=tw11890930883866550513:=rfl
noncomputable def tw7505376677984886296:Params→Obj:=fun P=>oF vN "is_call" "is_call" (top 1) 0 vN vN
theorem te7505376677984886296:tw7505376677984886296=tw7505376677984886296:=rfl
noncomputable def tw1694417251044691511:Params→Obj:=fun P=>oF vN "is_of" "is_of" (top 11) 0 vN vN
theorem te1694417251044691511:tw1694417251044691511=tw1694417251044691511:=rfl
noncomputable def tw8539327998979142543:Params→Obj:=fun P=>oF vN "_law_grown" "_law_grown" (top 41) 0 vN vN
theorem te8539327998979142543:tw8539327998979142543=tw8539327998979142543:=rfl
noncomputable def tw388031584806637300:Params→Obj:=fun P=>oF vN "law" "law" (top 52) 0 vN vN
theorem te388031584806637300:tw388031584806637300=tw388031584806637300:=rfl
noncomputable def tw8293841171897313193:Params→Obj:=fun P=>oF vN "filled" "filled" (top 21) 0 vN vN
theorem te8293841171897313193:tw8293841171897313193=tw8293841171897313193:=rfl
noncomputable def tw10306612833709383022:Params→Obj:=fun P=>oF vF "many_by" "many_by" (top 23) 3 (vS "turnery.counting" 359) (vR 147)
theorem te10306612833709383022:tw10306612833709383022=tw10306612833709383022:=rfl
noncomputable def tw6698076113410281297:Params→Obj:=fun P=>oF vF "_law_answer" "_law_answer" (top 50) 3 (vS "law_turnery_k22_what_is_made" 411) (vR 288)
theorem te6698076113410281297:tw6698076113410281297=tw6698076113410281297:=rfl
noncomputable def tw11375060533715966252:Params→Obj:=fun P=>oF vF "_law_grown" "_law_grown" (top 41) 3 (vS "law_turnery_k22_what_is_made" 411) (vR 233)
theorem te11375060533715966252:tw11375060533715966252=tw11375060533715966252:=rfl
noncomputable def tw2160569798036112034:Params→Obj:=fun P=>oF vF "row_of" "row_of" (top 10) 3 (vS "turnery.woods" 265) (vR 85)
theorem te2160569798036112034:tw2160569798036112034=tw2160569798036112034:=rfl
noncomputable def tw11957547566591851147:Params→Obj:=fun P=>oF vN "_law_whole" "_law_whole" (top 47) 0 vN vN
theorem te11957547566591851147:tw11957547566591851147=tw11957547566591851147:=rfl
noncomputable def tw4934249282036278949:Params→Obj:=fun P=>oF vF "rows_of" "rows_of" (top 9) 3 (vS "turnery.woods" 265) (vR 78)
theorem te4934249282036278949:tw4934249282036278949=tw4934249282036278949:=rfl
noncomputable def tw13214037005908195282:Params→Obj:=fun P=>oF vF "called_below" "called_below" (top 20) 3 (vS "turnery.outcomes" 322) (vR 135)
theorem te13214037005908195282:tw13214037005908195282=tw13214037005908195282:=rfl
noncomputable def tw9238880098739097632:Params→Obj:=fun P=>oF vF "_law_copy" "_law_copy" (top 49) 3 (vS "law_turnery_k22_what_is_made" 411) (vR 281)
theorem te9238880098739097632:tw9238880098739097632=tw9238880098739097632:=rfl
noncomputable def tw1021244802426191099:Params→Obj:=fun P=>oF vN "called_below" "called_below" (top 20) 0 vN vN
theorem te1021244802426191099:tw1021244802426191099=tw1021244802426191099:=rfl
noncomputable def tw9394261438474580270:Params→Obj:=fun P=>oF vF "_law_mixed" "_law_mixed" (top 33) 3 (vS "law_turnery_k22_what_is_made" 411) (vR 189)
theorem te9394261438474580270:tw9394261438474580270=tw9394261438474580270:=rfl
noncomputable def tw10084295591744552508:Params→Obj:=fun P=>oF vF "_law_names" "_law_names" (top 34) 3 (vS "law_turnery_k22_what_is_made" 411) (vR 194)
theorem te10084295591744552508:tw10084295591744552508=tw10084295591744552508:=rfl
noncomputable def tw6939479099994221453:Params→Obj:=fun P=>oF vF "need_of" "need_of" (top 12) 3 (vS "turnery.woods" 265) (vR 97)
theorem te6939479099994221453:tw6939479099994221453=tw6939479099994221453:=rfl
noncomputable def tw4427095245417585618:Params→Obj:=fun P=>oF vF "_law_made" "_law_made" (top 44) 3 (vS "law_turnery_k22_what_is_made" 411) (vR 250)
theorem te4427095245417585618:tw4427095245417585618=tw4427095245417585618:=rfl
noncomputable def tw11842933852557911775:Params→Obj:=fun P=>oF vF "_law_tables" "_law_tables" (top 46) 3 (vS "law_turnery_k22_what_is_made" 411) (vR 262)
theorem te11842933852557911775:tw11842933852557911775=tw11842933852557911775:=rfl
noncomputable def tw9140723348780269431:Params→Obj:=fun P=>oF vF "turned_in" "turned_in" (top 29) 3 (vS "turnery.running" 379) (vR 168)
theorem te9140723348780269431:tw9140723348780269431=tw9140723348780269431:=rfl
noncomputable def tw1321896108180175639:Params→Obj:=fun P=>oF vN "turned" "turned" (top 28) 0 vN vN
theorem te1321896108180175639:tw1321896108180175639=tw1321896108180175639:=rfl
noncomputable def tw12849520569349554355:Params→Obj:=fun P=>oF vF "calls_of" "calls_of" (top 2) 3 (vS "turnery.terms" 187) (vR 27)
theorem te12849520569349554355:tw12849520569349554355=tw12849520569349554355:=rfl
noncomputable def tw12997077444856390195:Params→Obj:=fun P=>oF vN "row_of" "row_of" (top 10) 0 vN vN
theorem te12997077444856390195:tw12997077444856390195=tw12997077444856390195:=rfl
noncomputable def tw14741370999953200563:Params→Obj:=fun P=>oF vF "law" "law" (top 52) 3 (vS "law_turnery_k22_what_is_made" 411) (vR 302)
theorem te14741370999953200563:tw14741370999953200563=tw14741370999953200563:=rfl
noncomputable def tw14559957892819421529:Params→Obj:=fun P=>oF vN "_law_answer" "_law_answer" (top 50) 0 vN vN
theorem te14559957892819421529:tw14559957892819421529=tw14559957892819421529:=rfl
noncomputable def tw11130689661981738053:Params→Obj:=fun P=>oF vF "mark_put" "mark_put" (top 3) 3 (vS "turnery.terms" 187) (vR 34)
theorem te11130689661981738053:tw11130689661981738053=tw11130689661981738053:=rfl
noncomputable def tw14642641864721808270:Params→Obj:=fun P=>oF vF "_law_whole" "_law_whole" (top 47) 3 (vS "law_turnery_k22_what_is_made" 411) (vR 269)
theorem te14642641864721808270:tw14642641864721808270=tw14642641864721808270:=rfl
noncomputable def tw11418608165926805258:Params→Obj:=fun P=>oF vF "_law_turning" "_law_turning" (top 39) 3 (vS "law_turnery_k22_what_is_made" 411) (vR 221)
theorem te11418608165926805258:tw11418608165926805258=tw11418608165926805258:=rfl
noncomputable def tw10214212860802506428:Params→Obj:=fun P=>oF vF "filled" "filled" (top 21) 3 (vS "turnery.outcomes" 322) (vR 140)
theorem te10214212860802506428:tw10214212860802506428=tw10214212860802506428:=rfl
noncomputable def tw3066066468401529883:Params→Obj:=fun P=>oF vN "reckoned" "reckoned" (top 19) 0 vN vN
theorem te3066066468401529883:tw3066066468401529883=tw3066066468401529883:=rfl
noncomputable def tw7931908921270692627:Params→Obj:=fun P=>oF vN "_law_term" "_law_term" (top 37) 0 vN vN
theorem te7931908921270692627:tw7931908921270692627=tw7931908921270692627:=rfl
noncomputable def tw15405783607737477223:Params→Obj:=fun P=>oF vN "_law_right" "_law_right" (top 51) 0 vN vN
theorem te15405783607737477223:tw15405783607737477223=tw15405783607737477223:=rfl
noncomputable def tw7730788461236182848:Params→Obj:=fun P=>oF vN "need_in" "need_in" (top 13) 0 vN vN
theorem te7730788461236182848:tw7730788461236182848=tw7730788461236182848:=rfl
noncomputable def tw5045569717236816444:Params→Obj:=fun P=>oF vN "_law_wood" "_law_wood" (top 36) 0 vN vN
theorem te5045569717236816444:tw5045569717236816444=tw5045569717236816444:=rfl
noncomputable def tw2144755842996990995:Params→Obj:=fun P=>oF vF "reckoned" "reckoned" (top 19) 3 (vS "turnery.outcomes" 322) (vR 130)
theorem te2144755842996990995:tw2144755842996990995=tw2144755842996990995:=rfl
noncomputable def tw7921327233935867507:Params→Obj:=fun P=>oF vN "_law_built" "_law_built" (top 42) 0 vN vN
theorem te7921327233935867507:tw7921327233935867507=tw7921327233935867507:=rfl
noncomputable def tw7799577699779728872:Params→Obj:=fun P=>oF vF "need_in" "need_in" (top 13) 3 (vS "turnery.woods" 265) (vR 104)
theorem te7799577699779728872:tw7799577699779728872=tw7799577699779728872:=rfl
noncomputable def tw6866964608274001272:Params→Obj:=fun P=>oF vF "tall_by" "tall_by" (top 24) 3 (vS "turnery.counting" 359) (vR 154)
theorem te6866964608274001272:tw6866964608274001272=tw6866964608274001272:=rfl
noncomputable def tw4731282223136603869:Params→Obj:=fun P=>oF vF "is_call" "is_call" (top 1) 3 (vS "turnery.terms" 187) (vR 20)
theorem te4731282223136603869:tw4731282223136603869=tw4731282223136603869:=rfl
noncomputable def tw9294705879130901501:Params→Obj:=fun P=>oF vF "rule_of" "rule_of" (top 15) 3 (vS "turnery.turnings" 307) (vR 111)
theorem te9294705879130901501:tw9294705879130901501=tw9294705879130901501:=rfl
noncomputable def tw7736950410747827611:Params→Obj:=fun P=>oF vF "_law_rule" "_law_rule" (top 43) 3 (vS "law_turnery_k22_what_is_made" 411) (vR 245)
theorem te7736950410747827611:tw7736950410747827611=tw7736950410747827611:=rfl
noncomputable def tw15786851074222502028:Params→Obj:=fun P=>oF vF "_law_mark" "_law_mark" (top 40) 3 (vS "law_turnery_k22_what_is_made" 411) (vR 228)
theorem te15786851074222502028:tw15786851074222502028=tw15786851074222502028:=rfl
noncomputable def tw17862300845165582006:Params→Obj:=fun P=>oF vF "_law_measure" "_law_measure" (top 45) 3 (vS "law_turnery_k22_what_is_made" 411) (vR 257)
theorem te17862300845165582006:tw17862300845165582006=tw17862300845165582006:=rfl
noncomputable def tw17694649561586265274:Params→Obj:=fun P=>oF vF "_law_calls" "_law_calls" (top 38) 3 (vS "law_turnery_k22_what_is_made" 411) (vR 216)
theorem te17694649561586265274:tw17694649561586265274=tw17694649561586265274:=rfl
noncomputable def tw10616857400872875922:Params→Obj:=fun P=>oF vF "above" "above" (top 18) 3 (vS "turnery.outcomes" 322) (vR 125)
theorem te10616857400872875922:tw10616857400872875922=tw10616857400872875922:=rfl
noncomputable def tw7011241384628823570:Params→Obj:=fun P=>oF vN "need_of" "need_of" (top 12) 0 vN vN
theorem te7011241384628823570:tw7011241384628823570=tw7011241384628823570:=rfl
noncomputable def tw13776577728792366629:Params→Obj:=fun P=>oF vN "_law_calls" "_law_calls" (top 38) 0 vN vN
theorem te13776577728792366629:tw13776577728792366629=tw13776577728792366629:=rfl
noncomputable def tw2397218273035557445:Params→Obj:=fun P=>oF vN "_law_tables" "_law_tables" (top 46) 0 vN vN
theorem te2397218273035557445:tw2397218273035557445=tw2397218273035557445:=rfl
noncomputable def tw1904170784590109506:Params→Obj:=fun P=>oF vN "rule_of" "rule_of" (top 15) 0 vN vN
theorem te1904170784590109506:tw1904170784590109506=tw1904170784590109506:=rfl
noncomputable def tw5969171991757858381:Params→Obj:=fun P=>oF vN "rows_of" "rows_of" (top 9) 0 vN vN
theorem te5969171991757858381:tw5969171991757858381=tw5969171991757858381:=rfl
noncomputable def tw6554593355294151238:Params→Obj:=fun P=>oF vN "mark_put" "mark_put" (top 3) 0 vN vN
theorem te6554593355294151238:tw6554593355294151238=tw6554593355294151238:=rfl
noncomputable def tw12343674213365319560:Params→Obj:=fun P=>oF vN "tall_by" "tall_by" (top 24) 0 vN vN
theorem te12343674213365319560:tw12343674213365319560=tw12343674213365319560:=rfl
noncomputable def tw6473699765450135037:Params→Obj:=fun P=>oF vN "_law_copy" "_law_copy" (top 49) 0 vN vN
theorem te6473699765450135037:tw6473699765450135037=tw6473699765450135037:=rfl
noncomputable def tw2533465642548824652:Params→Obj:=fun P=>oF vN "_law_mark" "_law_mark" (top 40) 0 vN vN
theorem te2533465642548824652:tw2533465642548824652=tw2533465642548824652:=rfl
noncomputable def tw14583688814923685150:Params→Obj:=fun P=>oF vF "outcome" "outcome" (top 17) 3 (vS "turnery.outcomes" 322) (vR 118)
theorem te14583688814923685150:tw14583688814923685150=tw14583688814923685150:=rfl
noncomputable def tw15561329813829231904:Params→Obj:=fun P=>oF vF "_law_cell_at" "_law_cell_at" (top 32) 3 (vS "law_turnery_k22_what_is_made" 411) (vR 182)
theorem te15561329813829231904:tw15561329813829231904=tw15561329813829231904:=rfl
noncomputable def tw9460171040659728150:Params→Obj:=fun P=>oF vF "turned" "turned" (top 28) 3 (vS "turnery.running" 379) (vR 161)
theorem te9460171040659728150:tw9460171040659728150=tw9460171040659728150:=rfl
noncomputable def tw3864542974078690124:Params→Obj:=fun P=>oF vN "_law_great" "_law_great" (top 35) 0 vN vN
theorem te3864542974078690124:tw3864542974078690124=tw3864542974078690124:=rfl
noncomputable def tw3264930035805595116:Params→Obj:=fun P=>oF vN "outcome" "outcome" (top 17) 0 vN vN
theorem te3264930035805595116:tw3264930035805595116=tw3264930035805595116:=rfl
noncomputable def tw8550355630208099719:Params→Obj:=fun P=>oF vF "turned_by" "turned_by" (top 30) 3 (vS "turnery.running" 379) (vR 175)
theorem te8550355630208099719:tw8550355630208099719=tw8550355630208099719:=rfl
noncomputable def tw8728360414896806292:Params→Obj:=fun P=>oF vN "_law_alike" "_law_alike" (top 48) 0 vN vN
theorem te8728360414896806292:tw8728360414896806292=tw8728360414896806292:=rfl
noncomputable def tw17894635406180022166:Params→Obj:=fun P=>oF vN "_law_turning" "_law_turning" (top 39) 0 vN vN
theorem te17894635406180022166:tw17894635406180022166=tw17894635406180022166:=rfl
noncomputable def tw10529740592185546094:Params→Obj:=fun P=>oF vF "_law_wood" "_law_wood" (top 36) 3 (vS "law_turnery_k22_what_is_made" 411) (vR 206)
theorem te10529740592185546094:tw10529740592185546094=tw10529740592185546094:=rfl
noncomputable def tw5694100779987974223:Params→Obj:=fun P=>oF vF "_law_alike" "_law_alike" (top 48) 3 (vS "law_turnery_k22_what_is_made" 411) (vR 276)
theorem te5694100779987974223:tw5694100779987974223=tw5694100779987974223:=rfl
noncomputable def tw2012334011218608997:Params→Obj:=fun P=>oF vN "_law_names" "_law_names" (top 34) 0 vN vN
theorem te2012334011218608997:tw2012334011218608997=tw2012334011218608997:=rfl
noncomputable def tw1240179739032642320:Params→Obj:=fun P=>oF vN "turned_in" "turned_in" (top 29) 0 vN vN
theorem te1240179739032642320:tw1240179739032642320=tw1240179739032642320:=rfl
noncomputable def tw6308013583639359891:Params→Obj:=fun P=>oF vF "_law_built" "_law_built" (top 42) 3 (vS "law_turnery_k22_what_is_made" 411) (vR 238)
theorem te6308013583639359891:tw6308013583639359891=tw6308013583639359891:=rfl
noncomputable def tw6796100481639537733:Params→Obj:=fun P=>oF vF "_law_great" "_law_great" (top 35) 3 (vS "law_turnery_k22_what_is_made" 411) (vR 201)
theorem te6796100481639537733:tw6796100481639537733=tw6796100481639537733:=rfl
noncomputable def tw16420888090891529984:Params→Obj:=fun P=>oF vN "_law_measure" "_law_measure" (top 45) 0 vN vN
theorem te16420888090891529984:tw16420888090891529984=tw16420888090891529984:=rfl
noncomputable def tw7416221791891790782:Params→Obj:=fun P=>oF vN "_law_rule" "_law_rule" (top 43) 0 vN vN
theorem te7416221791891790782:tw7416221791891790782=tw7416221791891790782:=rfl
noncomputable def tw3342196003378913429:Params→Obj:=fun P=>oF vN "turned_by" "turned_by" (top 30) 0 vN vN
theorem te3342196003378913429:tw3342196003378913429=tw3342196003378913429:=rfl
noncomputable def tw8543921967932088738:Params→Obj:=fun P=>oF vN "calls_of" "calls_of" (top 2) 0 vN vN
theorem te8543921967932088738:tw8543921967932088738=tw8543921967932088738:=rfl
noncomputable def tw2370074220286275183:Params→Obj:=fun P=>oF vN "many_by" "many_by" (top 23) 0 vN vN
theorem te2370074220286275183:tw2370074220286275183=tw2370074220286275183:=rfl
noncomputable def tw269319076088021317:Params→Obj:=fun P=>oF vF "_law_term" "_law_term" (top 37) 3 (vS "law_turnery_k22_what_is_made" 411) (vR 211)
theorem te269319076088021317:tw269319076088021317=tw269319076088021317:=rfl
end PySem.W.Fast
noncomputable def PySem.W.Fast.tw10351363987577227201:PySem.Program:=PySem.Challenge.pw_turnery_k22_what_is_made
theorem PySem.W.Fast.te10351363987577227201:(PySem.Challenge.pw_turnery_k22_what_is_made:PySem.Program)=PySem.W.Fast.tw10351363987577227201:=rfl
noncomputable def PySem.W.Fast.tw11527233005168815701:PySem.Program:={ PySem.Challenge.pw_turnery_k22_what_is_made with main:={ PySem.Challenge.pw_turnery_k22_what_is_made.main with body:=[K22.top 1,K22.top 2,K22.top 3,K22.top 5,K22.top 6,K22.top 7,K22.top 9,K22.top 10,K22.top 11,K22.top 12,K22.top 13,K22.top 15,K22.top 17,K22.top 18,K22.top 19,K22.top 20,K22.top 21,K22.top 23,K22.top 24,K22.top 26,K22.top 27,K22.top 28,K22.top 29,K22.top 30,K22.top 32,K22.top 33,K22.top 34,K22.top 35,K22.top 36,K22.top 37,K22.top 38,K22.top 39,K22.top 40,K22.top 41,K22.top 42,K22.top 43,K22.top 44,K22.top 45,K22.top 46,K22.top 47,K22.top 48,K22.top 49,K22.top 50,K22.top 51,K22.top 52] } }
theorem PySem.W.Fast.te11527233005168815701:({ PySem.Challenge.pw_turnery_k22_what_is_made with main:={ PySem.Challenge.pw_turnery_k22_what_is_made.main with body:=[K22.top 1,K22.top 2,K22.top 3,K22.top 5,K22.top 6,K22.top 7,K22.top 9,K22.top 10,K22.top 11,K22.top 12,K22.top 13,K22.top 15,K22.top 17,K22.top 18,K22.top 19,K22.top 20,K22.top 21,K22.top 23,K22.top 24,K22.top 26,K22.top 27,K22.top 28,K22.top 29,K22.top 30,K22.top 32,K22.top 33,K22.top 34,K22.top 35,K22.top 36,K22.top 37,K22.top 38,K22.top 39,K22.top 40,K22.top 41,K22.top 42,K22.top 43,K22.top 44,K22.top 45,K22.top 46,K22.top 47,K22.top 48,K22.top 49,K22.top 50,K22.top 51,K22.top 52] } }:PySem.Program)=PySem.W.Fast.tw11527233005168815701:=rfl
noncomputable def PySem.W.Fast.tw10897769607239963289:List PySem.Stmt:=(PySem.Challenge.pw_turnery_k22_what_is_made.main.body.drop 0).take 6
theorem PySem.W.Fast.te10897769607239963289:((PySem.Challenge.pw_turnery_k22_what_is_made.main.body.drop 0).take 6:List PySem.Stmt)=PySem.W.Fast.tw10897769607239963289:=rfl
noncomputable def PySem.W.Fast.tw7879019841087817112:List PySem.Stmt:=(PySem.Challenge.pw_turnery_k22_what_is_made.main.body.drop 6).take 1
theorem PySem.W.Fast.te7879019841087817112:((PySem.Challenge.pw_turnery_k22_what_is_made.main.body.drop 6).take 1:List PySem.Stmt)=PySem.W.Fast.tw7879019841087817112:=rfl
noncomputable def PySem.W.Fast.tw13482072308110310001:List PySem.Stmt:=(PySem.Challenge.pw_turnery_k22_what_is_made.main.body.drop 7).take 8
theorem PySem.W.Fast.te13482072308110310001:((PySem.Challenge.pw_turnery_k22_what_is_made.main.body.drop 7).take 8:List PySem.Stmt)=PySem.W.Fast.tw13482072308110310001:=rfl
noncomputable def PySem.W.Fast.tw15498181353775791440:List PySem.Stmt:=(PySem.Challenge.pw_turnery_k22_what_is_made.main.body.drop 15).take 17
theorem PySem.W.Fast.te15498181353775791440:((PySem.Challenge.pw_turnery_k22_what_is_made.main.body.drop 15).take 17:List PySem.Stmt)=PySem.W.Fast.tw15498181353775791440:=rfl
noncomputable def PySem.W.Fast.tw1705431336232547878:List PySem.Stmt:=(PySem.Challenge.pw_turnery_k22_what_is_made.main.body.drop 32).take 14
theorem PySem.W.Fast.te1705431336232547878:((PySem.Challenge.pw_turnery_k22_what_is_made.main.body.drop 32).take 14:List PySem.Stmt)=PySem.W.Fast.tw1705431336232547878:=rfl
noncomputable def PySem.W.Fast.tw15242511866273495009:List PySem.Stmt:=(PySem.Challenge.pw_turnery_k22_what_is_made.main.body.drop 46).take 7
theorem PySem.W.Fast.te15242511866273495009:((PySem.Challenge.pw_turnery_k22_what_is_made.main.body.drop 46).take 7:List PySem.Stmt)=PySem.W.Fast.tw15242511866273495009:=rfl
section
open PySem
open K22
noncomputable def K22.x11 (P:Params):Obj:={ cls:=Value.type "tuple", data:=Data.seq #[] }
noncomputable def K22.x12 (P:Params):Obj:={ cls:=vN,data:=Data.fields #[vI 2 0,vI 0 0,vR 20,vI 4 0,vI 0 0,vR 27,vI 11 0,vI 0 0,vR 34,vI 14 0,vI 0 0,vR 41,vI 16 0,vI 0 0,vR 54,vI 18 0,vI 0 0,vR 66,vI 21 0,vI 0 0,vR 78,vI 23 0,vI 0 0,vR 85,vI 25 0,vI 0 0,vR 90,vI 31 0,vI 0 0,vR 97,vI 34 0,vI 0 0,vR 104,vI 37 0,vI 0 0,vR 111,vI 45 0,vI 0 0,vR 118,vI 47 0,vI 0 0,vR 125,vI 49 0,vI 0 0,vR 130,vI 54 0,vI 0 0,vR 135,vI 61 0,vI 0 0,vR 140,vI 66 0,vI 0 0,vR 147,vI 68 0,vI 0 0,vR 154,vI 73 0,vI 0 0,vR 161,vI 76 0,vI 0 0,vR 168,vI 79 0,vI 0 0,vR 175,vI 86 0,vI 0 0,vR 182,vI 90 0,vI 0 0,vR 189,vI 94 0,vI 0 0,vR 194,vI 107 0,vI 0 0,vR 201,vI 109 0,vI 0 0,vR 206,vI 122 0,vI 0 0,vR 211,vI 133 0,vI 0 0,vR 216,vI 138 0,vI 0 0,vR 221,vI 153 0,vI 0 0,vR 228,vI 155 0,vI 0 0,vR 233,vI 174 0,vI 0 0,vR 238,vI 183 0,vI 0 0,vR 245,vI 189 0,vI 0 0,vR 250,vI 195 0,vI 0 0,vR 257,vI 205 0,vI 0 0,vR 262,vI 213 0,vI 0 0,vR 269,vI 215 0,vI 0 0,vR 276,vI 224 0,vI 0 0,vR 281,vI 227 0,vI 0 0,vR 288,vI 238 0,vI 0 0,vR 295,vI 243 0,vI 0 0,vR 302] }
noncomputable def K22.x13 (P:Params):Obj:={ cls:=Value.type "code", data:=Data.fields #[vS "<module>" 182,vS "<module>" 183,vS "/claim/cut.py" 184,vI 1 0,vI 0 0,vI 0 0,vI 0 0,vI 0 0,vR 11,Value.bool false,vI 181 0,vR 12,vN,vN,vN,vN,vI 185 0,vI 1 0,vS "/claim/cut.py" 186] }
noncomputable def K22.x14 (P:Params):Obj:={ cls:=Value.type "frame", slots:=#[some (vR 13),some (vR 3),some (vR 3),none,some (vS "__main__" 164),none,some (vR 0)] }
noncomputable def K22.x19 (P:Params):Obj:=W.Fast.tw7505376677984886296 P
noncomputable def K22.x26 (P:Params):Obj:=W.Fast.tw8543921967932088738 P
noncomputable def K22.x33 (P:Params):Obj:=W.Fast.tw6554593355294151238 P
noncomputable def K22.x37 (P:Params):Obj:={ cls:=Value.type "builtin_function_or_method", data:=Data.fields #[Value.builtin "type.__prepare__", Value.type "type"] }
noncomputable def K22.x38 (P:Params):Obj:={ cls:=Value.type "dict", data:=Data.dict #[hE P "__module__" 222 (vS "turnery.errors" 213),hE P "__qualname__" 224 (vS "TurnError" 223),hE P "__firstlineno__" 226 (vI 14 225),hE P "__static_attributes__" 227 (vR 43)] 4 }
noncomputable def K22.x39 (P:Params):Obj:={ cls:=Value.type "tuple", data:=Data.seq #[] }
noncomputable def K22.x41 (P:Params):Obj:={ cls:=Value.type "code", data:=Data.fields #[vS "TurnError" 217,vS "TurnError" 218,vS "/claim/cut.py" 219,vI 14 0,vI 0 0,vI 0 0,vI 0 0,vI 0 0,vR 39,Value.bool false,vI 181 0,vR 40,vN,vN,vN,vN,vI 220 0,vI 14 0,vS "/claim/cut.py" 221] }
noncomputable def K22.x42 (P:Params):Obj:={ cls:=Value.type "frame", slots:=#[some (vR 41),some (vR 3),some (vR 38),none,some (vS "turnery.errors" 213),none,some (vR 0)] }
noncomputable def K22.x47 (P:Params):Obj:={ cls:=Value.type "super", data:=Data.fields #[vR 45,vR 45,vR 45] }
noncomputable def K22.x48 (P:Params):Obj:={ cls:=Value.type "builtin_function_or_method", data:=Data.fields #[Value.builtin "object.__init_subclass__", vR 45] }
noncomputable def K22.x50 (P:Params):Obj:={ cls:=Value.type "builtin_function_or_method", data:=Data.fields #[Value.builtin "type.__prepare__", Value.type "type"] }
noncomputable def K22.x51 (P:Params):Obj:={ cls:=Value.type "dict", data:=Data.dict #[hE P "__module__" 240 (vS "turnery.errors" 213),hE P "__qualname__" 242 (vS "NoTree" 241),hE P "__firstlineno__" 244 (vI 16 243),hE P "__static_attributes__" 245 (vR 56)] 4 }
noncomputable def K22.x52 (P:Params):Obj:={ cls:=Value.type "tuple", data:=Data.seq #[] }
noncomputable def K22.x54 (P:Params):Obj:={ cls:=Value.type "code", data:=Data.fields #[vS "NoTree" 235,vS "NoTree" 236,vS "/claim/cut.py" 237,vI 16 0,vI 0 0,vI 0 0,vI 0 0,vI 0 0,vR 52,Value.bool false,vI 181 0,vR 53,vN,vN,vN,vN,vI 238 0,vI 16 0,vS "/claim/cut.py" 239] }
noncomputable def K22.x55 (P:Params):Obj:={ cls:=Value.type "frame", slots:=#[some (vR 54),some (vR 3),some (vR 51),none,some (vS "turnery.errors" 213),none,some (vR 0)] }
noncomputable def K22.x59 (P:Params):Obj:={ cls:=Value.type "super", data:=Data.fields #[vR 58,vR 58,vR 58] }
noncomputable def K22.x60 (P:Params):Obj:={ cls:=Value.type "builtin_function_or_method", data:=Data.fields #[Value.builtin "object.__init_subclass__", vR 58] }
noncomputable def K22.x62 (P:Params):Obj:={ cls:=Value.type "builtin_function_or_method", data:=Data.fields #[Value.builtin "type.__prepare__", Value.type "type"] }
noncomputable def K22.x63 (P:Params):Obj:={ cls:=Value.type "dict", data:=Data.dict #[hE P "__module__" 256 (vS "turnery.errors" 213),hE P "__qualname__" 258 (vS "TooGreat" 257),hE P "__firstlineno__" 260 (vI 18 259),hE P "__static_attributes__" 261 (vR 68)] 4 }
noncomputable def K22.x64 (P:Params):Obj:={ cls:=Value.type "tuple", data:=Data.seq #[] }
noncomputable def K22.x66 (P:Params):Obj:={ cls:=Value.type "code", data:=Data.fields #[vS "TooGreat" 251,vS "TooGreat" 252,vS "/claim/cut.py" 253,vI 18 0,vI 0 0,vI 0 0,vI 0 0,vI 0 0,vR 64,Value.bool false,vI 181 0,vR 65,vN,vN,vN,vN,vI 254 0,vI 18 0,vS "/claim/cut.py" 255] }
noncomputable def K22.x67 (P:Params):Obj:={ cls:=Value.type "frame", slots:=#[some (vR 66),some (vR 3),some (vR 63),none,some (vS "turnery.errors" 213),none,some (vR 0)] }
noncomputable def K22.x71 (P:Params):Obj:={ cls:=Value.type "super", data:=Data.fields #[vR 70,vR 70,vR 70] }
noncomputable def K22.x72 (P:Params):Obj:={ cls:=Value.type "builtin_function_or_method", data:=Data.fields #[Value.builtin "object.__init_subclass__", vR 70] }
noncomputable def K22.x77 (P:Params):Obj:=W.Fast.tw5969171991757858381 P
noncomputable def K22.x84 (P:Params):Obj:=W.Fast.tw12997077444856390195 P
noncomputable def K22.x89 (P:Params):Obj:=W.Fast.tw1694417251044691511 P
noncomputable def K22.x96 (P:Params):Obj:=W.Fast.tw7011241384628823570 P
noncomputable def K22.x103 (P:Params):Obj:=W.Fast.tw7730788461236182848 P
noncomputable def K22.x110 (P:Params):Obj:=W.Fast.tw1904170784590109506 P
noncomputable def K22.x117 (P:Params):Obj:=W.Fast.tw3264930035805595116 P
noncomputable def K22.x124 (P:Params):Obj:=W.Fast.tw11890930883866550513 P
noncomputable def K22.x129 (P:Params):Obj:=W.Fast.tw3066066468401529883 P
noncomputable def K22.x134 (P:Params):Obj:=W.Fast.tw1021244802426191099 P
noncomputable def K22.x139 (P:Params):Obj:=W.Fast.tw8293841171897313193 P
noncomputable def K22.x146 (P:Params):Obj:=W.Fast.tw2370074220286275183 P
noncomputable def K22.x153 (P:Params):Obj:=W.Fast.tw12343674213365319560 P
noncomputable def K22.x160 (P:Params):Obj:=W.Fast.tw1321896108180175639 P
noncomputable def K22.x167 (P:Params):Obj:=W.Fast.tw1240179739032642320 P
noncomputable def K22.x174 (P:Params):Obj:=W.Fast.tw3342196003378913429 P
noncomputable def K22.x181 (P:Params):Obj:=W.Fast.tw9798331036449624159 P
noncomputable def K22.x188 (P:Params):Obj:=W.Fast.tw1267356640673300214 P
noncomputable def K22.x193 (P:Params):Obj:=W.Fast.tw2012334011218608997 P
noncomputable def K22.x200 (P:Params):Obj:=W.Fast.tw3864542974078690124 P
noncomputable def K22.x205 (P:Params):Obj:=W.Fast.tw5045569717236816444 P
noncomputable def K22.x210 (P:Params):Obj:=W.Fast.tw7931908921270692627 P
noncomputable def K22.x215 (P:Params):Obj:=W.Fast.tw13776577728792366629 P
noncomputable def K22.x220 (P:Params):Obj:=W.Fast.tw17894635406180022166 P
noncomputable def K22.x227 (P:Params):Obj:=W.Fast.tw2533465642548824652 P
noncomputable def K22.x232 (P:Params):Obj:=W.Fast.tw8539327998979142543 P
noncomputable def K22.x237 (P:Params):Obj:=W.Fast.tw7921327233935867507 P
noncomputable def K22.x244 (P:Params):Obj:=W.Fast.tw7416221791891790782 P
noncomputable def K22.x249 (P:Params):Obj:=W.Fast.tw6160504337865963759 P
noncomputable def K22.x256 (P:Params):Obj:=W.Fast.tw16420888090891529984 P
noncomputable def K22.x261 (P:Params):Obj:=W.Fast.tw2397218273035557445 P
noncomputable def K22.x268 (P:Params):Obj:=W.Fast.tw11957547566591851147 P
noncomputable def K22.x275 (P:Params):Obj:=W.Fast.tw8728360414896806292 P
noncomputable def K22.x280 (P:Params):Obj:=W.Fast.tw6473699765450135037 P
noncomputable def K22.x287 (P:Params):Obj:=W.Fast.tw14559957892819421529 P
noncomputable def K22.x294 (P:Params):Obj:=W.Fast.tw15405783607737477223 P
noncomputable def K22.x301 (P:Params):Obj:=W.Fast.tw388031584806637300 P
noncomputable def _root_.PySem.W.Fast.tw13080062030770357815:Params→Heap:=fun P=>{ objs:=⟨[W.boot_o_0 P,W.boot_o_1 P,Obj.mk vN none (Data.dict #[]) #[],x3 P,W.boot_o_4 P,W.boot_o_5 P,W.boot_o_6 P,W.boot_o_7 P,W.boot_o_8 P,W.boot_o_9 P,W.boot_o_10 P,x11 P,x12 P,x13 P,x14 P,oT #[],oE,oT #[vS "term" 192],oT #[],x19 P,x20 P,x21 P,oT #[],oE,x24 P,oT #[],x26 P,x27 P,x28 P,oT #[],oE,oT #[vS "term" 208,vS "mark" 209],oT #[],x33 P,x34 P,x35 P,oT #[Value.type "ValueError"],x37 P,x38 P,x39 P,oE,x41 P,x42 P,oT #[],x44 P,x45 P,x46 P,x47 P,x48 P,oT #[vR 45],x50 P,x51 P,x52 P,oE,x54 P,x55 P,oT #[],x57 P,x58 P,x59 P,x60 P,oT #[vR 45],x62 P,x63 P,x64 P,oE,x66 P,x67 P,oT #[],x69 P,x70 P,x71 P,x72 P,oT #[],oE,oT #[vS "wood" 270,vS "kind" 271],oT #[],x77 P,x78 P,x79 P,oT #[],oE,x82 P,oT #[],x84 P,x85 P,x86 P,oT #[],oE,x89 P,x90 P,x91 P,oT #[],oE,x94 P,oT #[],x96 P,x97 P,x98 P,oT #[],oE,oT #[vS "wood" 302,vS "tree" 303],oT #[],x103 P,x104 P,x105 P,oT #[],oE,x108 P,oT #[],x110 P,x111 P,x112 P,oT #[],oE,x115 P,oT #[],x117 P,x118 P,x119 P,oT #[],oE,oT #[vS "tree" 337],oT #[],x124 P,x125 P,x126 P,oT #[],oE,x129 P,x130 P,x131 P,oT #[],oE,x134 P,x135 P,x136 P,oT #[],oE,x139 P,x140 P,x141 P,oT #[],oE,x144 P,oT #[],x146 P,x147 P,x148 P,oT #[],oE,x151 P,oT #[],x153 P,x154 P,x155 P,oT #[],oE,oT #[vS "turning" 388,vS "tree" 389],oT #[],x160 P,x161 P,x162 P,oT #[],oE,x165 P,oT #[],x167 P,x168 P,x169 P,oT #[],oE,x172 P,oT #[],x174 P,x175 P,x176 P,oT #[],oE,x179 P,oT #[],x181 P,x182 P,x183 P,oT #[],oE,x186 P,oT #[],x188 P,x189 P,x190 P,oT #[],oE,x193 P,x194 P,x195 P,oT #[],oE,oT #[vS "_law_cell" 439],oT #[],x200 P,x201 P,x202 P,oT #[],oE,x205 P,x206 P,x207 P,oT #[],oE,x210 P,x211 P,x212 P,oT #[],oE,x215 P,x216 P,x217 P,oT #[],oE,x220 P,x221 P,x222 P,oT #[],oE,x225 P,oT #[],x227 P,x228 P,x229 P,oT #[],oE,x232 P,x233 P,x234 P,oT #[],oE,x237 P,x238 P,x239 P,oT #[],oE,x242 P,oT #[],x244 P,x245 P,x246 P,oT #[],oE,x249 P,x250 P,x251 P,oT #[],oE,x254 P,oT #[],x256 P,x257 P,x258 P,oT #[],oE,x261 P,x262 P,x263 P,oT #[],oE,oT #[vS "_law_found" 528],oT #[],x268 P,x269 P,x270 P,oT #[],oE,x273 P,oT #[],x275 P,x276 P,x277 P,oT #[],oE,x280 P,x281 P,x282 P,oT #[],oE,x285 P,oT #[],x287 P,x288 P,x289 P,oT #[],oE,x292 P,oT #[],x294 P,x295 P,x296 P,oT #[],oE,x299 P,oT #[],x301 P,x302 P,x303 P]⟩ }
theorem _root_.PySem.W.Fast.te13080062030770357815:PySem.W.Fast.tw13080062030770357815=PySem.W.Fast.tw13080062030770357815:=rfl
noncomputable def K22.N:W.BT:=.nil
noncomputable def K22.B (o:Obj) (l r:W.BT):W.BT:=.node o l r
noncomputable def _root_.PySem.W.Fast.tw2851485054768049997:Params→W.BT:=fun P=>B (W.boot_o_0 P) (B (W.boot_o_1 P) (B (x3 P) (B (W.boot_o_7 P) (B (oT #[]) (B (oT #[vS "term" 208,vS "mark" 209]) (B (x63 P) (B (oT #[]) (B (oT #[]) N N) N) (B (oT #[]) N N)) (B (oT #[]) (B (oT #[]) (B (x287 P) N N) N) (B (oT #[]) N N))) (B (x47 P) (B (x79 P) (B (oE) (B (oT #[]) N N) N) (B (x207 P) N N)) (B (x111 P) (B (x175 P) (B (x303 P) N N) N) (B (x239 P) N N)))) (B (oE) (B (x39 P) (B (x71 P) (B (x135 P) (B (x263 P) N N) N) (B (oT #[]) N N)) (B (x103 P) (B (x167 P) (B (x295 P) N N) N) (B (oE) N N))) (B (x55 P) (B (oT #[]) (B (x151 P) (B (oE) N N) N) (B (x215 P) N N)) (B (x119 P) (B (x183 P) N N) (B (oT #[]) N N))))) (B (x11 P) (B (x19 P) (B (x35 P) (B (x67 P) (B (x131 P) (B (oT #[]) N N) N) (B (x195 P) N N)) (B (oT #[]) (B (oT #[]) (B (oE) N N) N) (B (x227 P) N N))) (B (x51 P) (B (oT #[]) (B (x147 P) (B (x275 P) N N) N) (B (x211 P) N N)) (B (x115 P) (B (x179 P) N N) (B (oT #[]) N N)))) (B (x27 P) (B (oT #[]) (B (oT #[vS "wood" 270,vS "kind" 271]) (B (x139 P) (B (oT #[]) N N) N) (B (oT #[]) N N)) (B (oE) (B (oE) (B (x299 P) N N) N) (B (oT #[]) N N))) (B (x59 P) (B (x91 P) (B (x155 P) (B (oT #[]) N N) N) (B (oE) N N)) (B (oT #[]) (B (oT #[]) N N) (B (x251 P) N N)))))) (B (W.boot_o_5 P) (B (W.boot_o_9 P) (B (oT #[vS "term" 192]) (B (x33 P) (B (oE) (B (x129 P) (B (x257 P) N N) N) (B (x193 P) N N)) (B (x97 P) (B (x161 P) (B (x289 P) N N) N) (B (x225 P) N N))) (B (oT #[vR 45]) (B (oE) (B (oT #[]) (B (x273 P) N N) N) (B (oE) N N)) (B (oT #[]) (B (oT #[]) N N) (B (oE) N N)))) (B (oT #[]) (B (x41 P) (B (oT #[]) (B (oT #[]) (B (oE) N N) N) (B (x201 P) N N)) (B (x105 P) (B (x169 P) (B (oT #[]) N N) N) (B (x233 P) N N))) (B (x57 P) (B (x89 P) (B (x153 P) (B (x281 P) N N) N) (B (x217 P) N N)) (B (oE) (B (oE) N N) (B (x249 P) N N))))) (B (x13 P) (B (x21 P) (B (x37 P) (B (x69 P) (B (oE) (B (x261 P) N N) N) (B (oE) N N)) (B (oT #[vS "wood" 302,vS "tree" 303]) (B (x165 P) (B (oT #[]) N N) N) (B (x229 P) N N))) (B (oE) (B (x85 P) (B (oT #[]) (B (x277 P) N N) N) (B (oT #[]) N N)) (B (x117 P) (B (x181 P) N N) (B (x245 P) N N)))) (B (oT #[]) (B (x45 P) (B (x77 P) (B (x141 P) (B (x269 P) N N) N) (B (x205 P) N N)) (B (oT #[]) (B (oT #[]) (B (x301 P) N N) N) (B (x237 P) N N))) (B (oT #[vR 45]) (B (oE) (B (oE) (B (x285 P) N N) N) (B (x221 P) N N)) (B (x125 P) (B (x189 P) N N) (B (oE) N N))))))) (B (Obj.mk vN none (Data.dict #[]) #[]) (B (W.boot_o_4 P) (B (W.boot_o_8 P) (B (oE) (B (oT #[]) (B (x64 P) (B (oE) (B (x256 P) N N) N) (B (oE) N N)) (B (x96 P) (B (x160 P) (B (x288 P) N N) N) (B (oE) N N))) (B (x48 P) (B (oT #[]) (B (x144 P) (B (oE) N N) N) (B (oT #[]) N N)) (B (x112 P) (B (x176 P) N N) (B (oT #[]) N N)))) (B (x24 P) (B (oE) (B (x72 P) (B (x136 P) (B (oT #[]) N N) N) (B (x200 P) N N)) (B (x104 P) (B (x168 P) (B (x296 P) N N) N) (B (x232 P) N N))) (B (oT #[]) (B (oE) (B (oT #[]) (B (x280 P) N N) N) (B (x216 P) N N)) (B (oT #[]) (B (oT #[]) N N) (B (oE) N N))))) (B (x12 P) (B (x20 P) (B (oT #[Value.type "ValueError"]) (B (oT #[]) (B (oT #[]) (B (oE) N N) N) (B (oT #[]) N N)) (B (oE) (B (oE) (B (x292 P) N N) N) (B (x228 P) N N))) (B (x52 P) (B (x84 P) (B (x148 P) (B (x276 P) N N) N) (B (x212 P) N N)) (B (oT #[]) (B (oT #[]) N N) (B (x244 P) N N)))) (B (x28 P) (B (x44 P) (B (oT #[]) (B (x140 P) (B (x268 P) N N) N) (B (oE) N N)) (B (x108 P) (B (x172 P) (B (oT #[]) N N) N) (B (oE) N N))) (B (x60 P) (B (oT #[]) (B (oT #[]) (B (oE) N N) N) (B (x220 P) N N)) (B (x124 P) (B (x188 P) N N) (B (oT #[]) N N)))))) (B (W.boot_o_6 P) (B (W.boot_o_10 P) (B (oT #[]) (B (x34 P) (B (x66 P) (B (x130 P) (B (x258 P) N N) N) (B (x194 P) N N)) (B (x98 P) (B (x162 P) (B (oT #[]) N N) N) (B (oT #[]) N N))) (B (x50 P) (B (x82 P) (B (x146 P) (B (oT #[]) N N) N) (B (x210 P) N N)) (B (oE) (B (oE) N N) (B (x242 P) N N)))) (B (x26 P) (B (x42 P) (B (oE) (B (oE) (B (oT #[vS "_law_found" 528]) N N) N) (B (x202 P) N N)) (B (oT #[]) (B (oT #[]) (B (oE) N N) N) (B (x234 P) N N))) (B (x58 P) (B (x90 P) (B (x154 P) (B (x282 P) N N) N) (B (oT #[]) N N)) (B (oT #[vS "tree" 337]) (B (x186 P) N N) (B (x250 P) N N))))) (B (x14 P) (B (oT #[]) (B (x38 P) (B (x70 P) (B (x134 P) (B (x262 P) N N) N) (B (oT #[vS "_law_cell" 439]) N N)) (B (oT #[]) (B (oT #[]) (B (x294 P) N N) N) (B (oT #[]) N N))) (B (x54 P) (B (x86 P) (B (oE) (B (oT #[]) N N) N) (B (oE) N N)) (B (x118 P) (B (x182 P) N N) (B (x246 P) N N)))) (B (oE) (B (x46 P) (B (x78 P) (B (oT #[]) (B (x270 P) N N) N) (B (x206 P) N N)) (B (x110 P) (B (x174 P) (B (x302 P) N N) N) (B (x238 P) N N))) (B (x62 P) (B (x94 P) (B (oT #[vS "turning" 388,vS "tree" 389]) (B (oT #[]) N N) N) (B (x222 P) N N)) (B (x126 P) (B (x190 P) N N) (B (x254 P) N N)))))))
theorem _root_.PySem.W.Fast.te2851485054768049997:PySem.W.Fast.tw2851485054768049997=PySem.W.Fast.tw2851485054768049997:=rfl
end
open PySem PySem.W PyProof.Rows
set_option maxRecDepth 100000 in
set_option maxHeartbeats 0 in
theorem PySem.Challenge.cw_turnery_k22_what_is_made_holds : PySem.Challenge.rw_turnery_k22_what_is_made.Holds := by
  w_on;o_law;k_head;(case hw=>w_witness2)
  k_fill
  refine K22.walk (c1:=147) (T1:=143) (c2:=154) (T2:=150) (c3:=175) (T3:=171) (l:=PySem.Challenge.rw_turnery_k22_what_is_made) rfl rfl (fun w h Y=>PySem.W.km_in_of Y) ?tb1 ?tb2 ?tb3 (by decide) (by decide) (by decide) ?F
  case tb1 =>
    intro w
    refine' L2.TabAt.mk ⟨_,?a⟩ ?b ?c ?d;(case a=>exact rfl);(case b=>kernel_rfl);(case c=>kernel_rfl);(case d=>kernel_rfl)
  case tb2 =>
    intro w
    refine' L2.TabAt.mk ⟨_,?a⟩ ?b ?c ?d;(case a=>exact rfl);(case b=>kernel_rfl);(case c=>kernel_rfl);(case d=>kernel_rfl)
  case tb3 =>
    intro w
    refine' L2.TabAt.mk ⟨_,?a⟩ ?b ?c ?d;(case a=>exact rfl);(case b=>kernel_rfl);(case c=>kernel_rfl);(case d=>kernel_rfl)
  case F =>
    intro w mg fa h KX G hmg
    refine' K22.all_mk (c1:=147) (T1:=143) (c2:=154) (T2:=150) (c3:=175) (T3:=171) KX G hmg ?d1 ?d2 ?d3 ?d4 ?d5 ?d6 ?d7 ?d8 ?d9 ?d10 ?d11 ?d12 ?d13 ?d14 ?d15 ?d16 ?d17 ?d18 ?d19 ?d20 ?d21 ?d22 ?d23 ?d24 ?d25 ?d26 ?d27 ?d28 ?d29 ?d30 ?d31 ?d32 ?d33 ?d34 ?d35 ?d36 ?d37 ?d38 ?d39 ?d40 ?z1 ?z2 ?z3 ?z4 ?z5 ?z6 ?z7 ?z8 ?z9 ?z10 ?z11 ?z12 ?z13 ?z14 ?z15 ?ht1 ?hh1 ?ht2 ?hh2 ?ht3 ?hh3 (by decide) (by decide) (by decide) ?gN ?gG ?qN ?qG ?kG ?g4 ?g6
    (case ht1=>kernel_rfl);(case hh1=>kernel_rfl)
    (case ht2=>kernel_rfl);(case hh2=>kernel_rfl)
    (case ht3=>kernel_rfl);(case hh3=>kernel_rfl)
    (case d1=>refine' L2.DefAt.mk' ?a ?l ?c ?k;(case a=>k_is);(case l=>k_is);(case c=>k_is);(case k=>k_is))
    (case d2=>refine' L2.DefAt.mk' ?a ?l ?c ?k;(case a=>k_is);(case l=>k_is);(case c=>k_is);(case k=>k_is))
    (case d3=>refine' L2.DefAt.mk' ?a ?l ?c ?k;(case a=>k_is);(case l=>k_is);(case c=>k_is);(case k=>k_is))
    (case d4=>refine' L2.DefAt.mk' ?a ?l ?c ?k;(case a=>k_is);(case l=>k_is);(case c=>k_is);(case k=>k_is))
    (case d5=>refine' L2.DefAt.mk' ?a ?l ?c ?k;(case a=>k_is);(case l=>k_is);(case c=>k_is);(case k=>k_is))
    (case d6=>refine' L2.DefAt.mk' ?a ?l ?c ?k;(case a=>k_is);(case l=>k_is);(case c=>k_is);(case k=>k_is))
    (case d7=>refine' L2.DefAt.mk' ?a ?l ?c ?k;(case a=>k_is);(case l=>k_is);(case c=>k_is);(case k=>k_is))
    (case d8=>refine' L2.DefAt.mk' ?a ?l ?c ?k;(case a=>k_is);(case l=>k_is);(case c=>k_is);(case k=>k_is))
    (case d9=>refine' L2.DefAt.mk' ?a ?l ?c ?k;(case a=>k_is);(case l=>k_is);(case c=>k_is);(case k=>k_is))
    (case d10=>refine' L2.DefAt.mk' ?a ?l ?c ?k;(case a=>k_is);(case l=>k_is);(case c=>k_is);(case k=>k_is))
    (case d11=>refine' L2.DefAt.mk' ?a ?l ?c ?k;(case a=>k_is);(case l=>k_is);(case c=>k_is);(case k=>k_is))
    (case d12=>refine' L2.DefAt.mk' ?a ?l ?c ?k;(case a=>k_is);(case l=>k_is);(case c=>k_is);(case k=>k_is))
    (case d13=>refine' L2.DefAt.mk' ?a ?l ?c ?k;(case a=>k_is);(case l=>k_is);(case c=>k_is);(case k=>k_is))
    (case d14=>refine' L2.DefAt.mk' ?a ?l ?c ?k;(case a=>k_is);(case l=>k_is);(case c=>k_is);(case k=>k_is))
    (case d15=>refine' L2.DefAt.mk' ?a ?l ?c ?k;(case a=>k_is);(case l=>k_is);(case c=>k_is);(case k=>k_is))
    (case d16=>refine' L2.DefAt.mk' ?a ?l ?c ?k;(case a=>k_is);(case l=>k_is);(case c=>k_is);(case k=>k_is))
    (case d17=>refine' L2.DefAt.mk' ?a ?l ?c ?k;(case a=>k_is);(case l=>k_is);(case c=>k_is);(case k=>k_is))
    (case d18=>refine' L2.DefAt.mk' ?a ?l ?c ?k;(case a=>k_is);(case l=>k_is);(case c=>k_is);(case k=>k_is))
    (case d19=>refine' L2.DefAt.mk' ?a ?l ?c ?k;(case a=>k_is);(case l=>k_is);(case c=>k_is);(case k=>k_is))
    (case d20=>refine' L2.DefAt.mk' ?a ?l ?c ?k;(case a=>k_is);(case l=>k_is);(case c=>k_is);(case k=>k_is))
    (case d21=>refine' L2.DefAt.mk' ?a ?l ?c ?k;(case a=>k_is);(case l=>k_is);(case c=>k_is);(case k=>k_is))
    (case d22=>refine' L2.DefAt.mk' ?a ?l ?c ?k;(case a=>k_is);(case l=>k_is);(case c=>k_is);(case k=>k_is))
    (case d23=>refine' L2.DefAt.mk' ?a ?l ?c ?k;(case a=>k_is);(case l=>k_is);(case c=>k_is);(case k=>k_is))
    (case d24=>refine' L2.DefAt.mk' ?a ?l ?c ?k;(case a=>k_is);(case l=>k_is);(case c=>k_is);(case k=>k_is))
    (case d25=>refine' L2.DefAt.mk' ?a ?l ?c ?k;(case a=>k_is);(case l=>k_is);(case c=>k_is);(case k=>k_is))
    (case d26=>refine' L2.DefAt.mk' ?a ?l ?c ?k;(case a=>k_is);(case l=>k_is);(case c=>k_is);(case k=>k_is))
    (case d27=>refine' L2.DefAt.mk' ?a ?l ?c ?k;(case a=>k_is);(case l=>k_is);(case c=>k_is);(case k=>k_is))
    (case d28=>refine' L2.DefAt.mk' ?a ?l ?c ?k;(case a=>k_is);(case l=>k_is);(case c=>k_is);(case k=>k_is))
    (case d29=>refine' L2.DefAt.mk' ?a ?l ?c ?k;(case a=>k_is);(case l=>k_is);(case c=>k_is);(case k=>k_is))
    (case d30=>refine' L2.DefAt.mk' ?a ?l ?c ?k;(case a=>k_is);(case l=>k_is);(case c=>k_is);(case k=>k_is))
    (case d31=>refine' L2.DefAt.mk' ?a ?l ?c ?k;(case a=>k_is);(case l=>k_is);(case c=>k_is);(case k=>k_is))
    (case d32=>refine' L2.DefAt.mk' ?a ?l ?c ?k;(case a=>k_is);(case l=>k_is);(case c=>k_is);(case k=>k_is))
    (case d33=>refine' L2.DefAt.mk' ?a ?l ?c ?k;(case a=>k_is);(case l=>k_is);(case c=>k_is);(case k=>k_is))
    (case d34=>refine' L2.DefAt.mk' ?a ?l ?c ?k;(case a=>k_is);(case l=>k_is);(case c=>k_is);(case k=>k_is))
    (case d35=>refine' L2.DefAt.mk' ?a ?l ?c ?k;(case a=>k_is);(case l=>k_is);(case c=>k_is);(case k=>k_is))
    (case d36=>refine' L2.DefAt.mk' ?a ?l ?c ?k;(case a=>k_is);(case l=>k_is);(case c=>k_is);(case k=>k_is))
    (case d37=>refine' L2.DefAt.mk' ?a ?l ?c ?k;(case a=>k_is);(case l=>k_is);(case c=>k_is);(case k=>k_is))
    (case d38=>refine' L2.DefAt.mk' ?a ?l ?c ?k;(case a=>k_is);(case l=>k_is);(case c=>k_is);(case k=>k_is))
    (case d39=>refine' L2.DefAt.mk' ?a ?l ?c ?k;(case a=>k_is);(case l=>k_is);(case c=>k_is);(case k=>k_is))
    (case d40=>refine' L2.DefAt.mk' ?a ?l ?c ?k;(case a=>k_is);(case l=>k_is);(case c=>k_is);(case k=>k_is))
    (case z1=>k_is);(case z2=>k_is);(case z3=>k_is);(case z4=>k_is);(case z5=>k_is);(case z6=>k_is);(case z7=>k_is);(case z8=>k_is);(case z9=>k_is);(case z10=>k_is);(case z11=>k_is);(case z12=>k_is);(case z13=>k_is);(case z14=>k_is);(case z15=>k_is)
    (case gN=>k_is)
    (case gG=>k_is)
    (case qN=>kernel_rfl)
    (case qG=>kernel_rfl)
    (case kG=>kernel_rfl)
    (case g4=>k_is)
    (case g6=>k_is)
