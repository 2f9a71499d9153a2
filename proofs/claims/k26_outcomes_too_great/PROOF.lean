import PyProof.Rows.All
import Wide.All
import OpenK.AllK
import Wide.FinOn
import Lean
import PyProof.EqAt
import PyProof.EqKinds
import PyProof.TupleCall
import KE.KSortTup
import PyProof.PureStr
import KE.KLam
import KE.KNestM
import PyProof.DictItems
import PyProof.DictValues
import PyProof.DictWalks
import KE.KRevIter
import KE.KTryDeep
import KE.KTryOn
import OpenK.KOwn
import PyProof.FString
import PyProof.RulesAs
import PyProof.NsDelKeeps
import KE.KIsAll
import PySem.Challenge.RW_turnery_k26_outcomes_too_great
noncomputable section
set_option Elab.async false
set_option linter.all false
set_option maxRecDepth 100000
namespace L2
open PySem PySem.Spec PyProof.Rows
abbrev Key:=Sum Int Str
def keyIs:Key→Value→Bool
  | .inl k,v=>Value.isInt k v
  | .inr x,v=>Value.isStrOf x v
def keyH (w:World):Key→Int
  | .inl k=>hashInt k
  | .inr x=>hashStr w x
theorem keyIs_shape:∀ {k:Key} {v:Value},keyIs k v=true→(∃ i t,k=Sum.inl i∧v=Value.int i t)∨(∃ x t,k=Sum.inr x∧v=Value.str x t)
  | .inl i,v,h=>by
    obtain ⟨t,e⟩:=Value.isInt_shape (k:=i) (v:=v) h
    exact .inl ⟨i,t,rfl,e⟩
  | .inr x,v,h=>by
    obtain ⟨t,e⟩:=Value.isStrOf_shape (x:=x) (v:=v) h
    exact .inr ⟨x,t,rfl,e⟩
theorem keyIs_int (i:Int) (t:Tok):keyIs (.inl i) (.int i t)=true:=by simp [keyIs,Value.isInt]
theorem keyIs_str (x:Str) (t:Tok):keyIs (.inr x) (.str x t)=true:=by simp [keyIs,Value.isStrOf]
theorem key_ll (a b:Int):decide ((Sum.inl a:Key)=Sum.inl b)=(a == b):=by
  by_cases e:a=b
  · subst e;simp
  · have h:¬ (Sum.inl a:Key)=Sum.inl b:=fun q=>e (Sum.inl.inj q)
    rw [decide_eq_false h]
    exact (beq_eq_false_iff_ne.mpr e).symm
theorem key_rr (a b:Str):decide ((Sum.inr a:Key)=Sum.inr b)=decide (a=b):=by
  by_cases e:a=b
  · subst e;simp
  · have h:¬ (Sum.inr a:Key)=Sum.inr b:=fun q=>e (Sum.inr.inj q)
    rw [decide_eq_false h,decide_eq_false e]
theorem key_lr (a:Int) (b:Str):decide ((Sum.inl a:Key)=Sum.inr b)=false:=decide_eq_false (fun q=>nomatch q)
theorem key_rl (a:Str) (b:Int):decide ((Sum.inr a:Key)=Sum.inl b)=false:=decide_eq_false (fun q=>nomatch q)
def mixKind (prog:Program) (w:World):PySem.KeyKind prog w Key where
  is:=keyIs
  hash:=keyH w
  inj:=fun v a b ha hb=>by
    rcases keyIs_shape ha with ⟨i,t,rfl,rfl⟩ | ⟨x,t,rfl,rfl⟩
    · rcases keyIs_shape hb with ⟨j,u,rfl,e⟩ | ⟨y,u,rfl,e⟩
      · injection e with e1 _;rw [e1]
      · exact nomatch e
    · rcases keyIs_shape hb with ⟨j,u,rfl,e⟩ | ⟨y,u,rfl,e⟩
      · exact nomatch e
      · injection e with e1 _;rw [e1]
  byValue:=fun k v h=>by
    rcases keyIs_shape h with ⟨i,t,rfl,rfl⟩ | ⟨x,t,rfl,rfl⟩ <;> rfl
  pyHash:=fun hv h=>by
    rcases keyIs_shape hv with ⟨i,t,rfl,rfl⟩ | ⟨x,t,rfl,rfl⟩
    · exact wpAny_pyHash_int h
    · exact wpAny_pyHash_str h
  eqBool:=fun hu hv h=>by
    rcases keyIs_shape hu with ⟨i,t,rfl,rfl⟩ | ⟨x,t,rfl,rfl⟩
    · rcases keyIs_shape hv with ⟨j,u,rfl,rfl⟩ | ⟨y,u,rfl,rfl⟩
      · rw [key_ll] at h;exact wpAny_eqBool_int h
      · rw [key_lr] at h;exact SeqAt.EqAt.int_str i t y u _ _ _ _ h
    · rcases keyIs_shape hv with ⟨j,u,rfl,rfl⟩ | ⟨y,u,rfl,rfl⟩
      · rw [key_rl] at h;exact SeqAt.EqAt.str_int x t j u _ _ _ _ h
      · rw [key_rr] at h;exact wpAny_eqBool_str h
  «strs»:=fun k x t v h=>by
    rcases keyIs_shape h with ⟨i,u,rfl,e⟩ | ⟨y,u,rfl,e⟩
    · exact nomatch e
    · injection e with e1 _
      subst e1
      cases v <;> rfl
theorem mixKind_int (prog:Program) (w:World) (i:Int) (t:Tok):(mixKind prog w).is (.inl i) (.int i t)=true:=keyIs_int i t
theorem mixKind_str (prog:Program) (w:World) (x:Str) (t:Tok):(mixKind prog w).is (.inr x) (.str x t)=true:=keyIs_str x t
end L2
namespace L2
open PySem PySem.Spec PyProof.Rows
inductive V where
  | non | bl (b:Bool) | int (i:Int) | str (x:Str) | byt (b:Array UInt8) | flt (b:UInt64) | ref (a:Addr) | ty (n:String)
  deriving DecidableEq
def RelV:V→Value→Prop
  | .non,u=>u=Value.none
  | .bl b,u=>u=Value.bool b
  | .int i,u=>∃ t,u=Value.int i t
  | .str x,u=>∃ t,u=Value.str x t
  | .byt b,u=>∃ t,u=Value.bytes b t
  | .flt b,u=>∃ t,u=Value.float b t
  | .ref a,u=>u=Value.ref a
  | .ty n,u=>u=Value.type n
abbrev Vals:List V→List Value→Prop:=Paired RelV
theorem Vals.length {xs:List V} {us:List Value} (r:Vals xs us):xs.length=us.length:=Paired.length r
theorem Vals.get:∀ {xs:List V} {us:List Value} {i:Nat} {x:V},Vals xs us→xs[i]?=some x→∃ u,us[i]?=some u∧RelV x u
  | _,_,_,_,.nil,e=>by simp at e
  | _,_,0,_,.cons r _,e=>by simp at e;subst e;exact ⟨_,rfl,r⟩
  | _,_,i + 1,x,.cons _ t,e=>by
    obtain ⟨u,h1,h2⟩:=Vals.get (i:=i) (x:=x) t (by simpa using e)
    exact ⟨u,by simpa using h1,h2⟩
theorem Vals.set {x:V} {u:Value} (r:RelV x u):∀ {xs:List V} {us:List Value} (i:Nat),Vals xs us→Vals (xs.set i x) (us.set i u)
  | _,_,_,.nil=>.nil
  | _,_,0,.cons _ t=>.cons r t
  | _,_,i + 1,.cons q t=>.cons q (Vals.set r i t)
theorem Vals.append:∀ {xs ys:List V} {us ws:List Value},Vals xs us→Vals ys ws→Vals (xs ++ ys) (us ++ ws)
  | _,_,_,_,.nil,s=>s
  | _,_,_,_,.cons r t,s=>.cons r (Vals.append t s)
theorem Vals.take:∀ {xs:List V} {us:List Value} (n:Nat),Vals xs us→Vals (xs.take n) (us.take n)
  | _,_,0,_=>.nil
  | _,_,_ + 1,.nil=>.nil
  | _,_,n + 1,.cons r t=>.cons r (Vals.take n t)
theorem Vals.drop:∀ {xs:List V} {us:List Value} (n:Nat),Vals xs us→Vals (xs.drop n) (us.drop n)
  | _,_,0,r=>r
  | _,_,_ + 1,.nil=>.nil
  | _,_,n + 1,.cons _ t=>Vals.drop n t
def RelO:Option V→Option Value→Prop
  | some v,some u=>RelV v u
  | none,none=>True
  | _,_=>False
def KV {κ:Type}:List (κ × V)→List (κ × Value)→Prop:=Paired fun (p:κ × V) (q:κ × Value)=>p.1=q.1∧RelV p.2 q.2
def kV:Key→V
  | .inl i=>.int i
  | .inr x=>.str x
inductive HO where
  /-- a list -/
  | lst (xs:List V)
  /-- a tuple (never changes) -/
  | tup (xs:List V)
  /-- a dict whose keys are ints and texts;one whose keys are tuples of ints and texts (the empty one is both) -/
  | dK (kvs:List (Key × V)) | dT (kvs:List (List Key × V))
  /-- a set of ints: its members,its size -/
  | set (S:Int→Bool) (n:Nat)
  /-- an instance of the class at C,its dict at dx,its attributes -/
  | ins (C dx:Addr) (fs:List (Str × V))
  /-- the dict of the instance at x -/
  | own (x:Addr)
  /-- the dict of an exception -/
  | xd (fs:List (Str × V))
  /-- a bound method,f of x -/
  | met (f x:Addr)
  /-- a range object lo,lo + 1,.. below hi -/
  | rng (lo hi:Int)
  /-- a thing that is known to the object (the script;a dict while a loop walks it): read,never written while it is so -/
  | frz (o:Obj) (u:HO)
  /-- a code object's table -/
  | tbl (ps:Array Value)
  /-- any other thing,by what is true of its one object (a def of one's own: SetO a S n:=HO.ext fun h=>..) -/
  | ext (φ:Heap→Prop)
abbrev Hp:=Addr→Option HO
def upd (H:Hp) (a:Addr) (o:HO):Hp:=fun b=>if b=a then some o else H b
theorem upd_same {H:Hp} {a:Addr} {o:HO}:upd H a o a=some o:=by unfold upd;rw [if_pos rfl]
theorem upd_ne {H:Hp} {a b:Addr} {o:HO} (h:b≠a):upd H a o b=H b:=by unfold upd;rw [if_neg h]
theorem ne_of {H:Hp} {a b:Addr} {o u:HO} (h:H a=some o) (h':H b=some u) (d:o≠u):a≠b:=by
  intro e;subst e;rw [h] at h';exact d (Option.some.inj h')
theorem ne_of_none {H:Hp} {a b:Addr} {o:HO} (h:H a=some o) (h':H b=none):a≠b:=by
  intro e;subst e;rw [h] at h';cases h'
section
variable (P:Program) (w:World)
def ObjOk (H:Hp) (h:Heap) (a:Addr):HO→Prop
  | .lst xs=>xs.length≤sizeLine∧∃ (its:List Value) (n:Nat),Vals xs its∧h.get? a=some { cls:=.type "list", data:=.seq its.toArray n }
  | .tup xs=>xs.length≤sizeLine∧∃ its:List Value,Vals xs its∧IsTup h a its.toArray
  | .dK kvs=>kvs.length≤sizeLine∧(a == sysModules)=false∧∃ vs,KV kvs vs∧h.DictOf (mixKind P w) a vs
  | .dT kvs=>kvs.length≤sizeLine∧(a == sysModules)=false∧∃ xs:List (List Key × Addr × Value),
      Paired (fun (p:List Key × V) (q:List Key × Addr × Value)=>p.1=q.1∧H q.2.1=some (.tup (p.1.map kV))∧RelV p.2 q.2.2) kvs xs ∧
      ∃ o es ep,h.get? a=some o∧o.ExactDict∧o.data=.dict es ep∧es.toList=xs.map (entryOfKey (tupleKind (mixKind P w)))∧(xs.map (·.1)).Nodup
  | .set S n=>h.SetOf (intKind P w) a S n
  | .ins C dx fs=>H dx=some (.own a)∧fs.length≤1000∧dx≠a∧h.get? a=some (PySem.W.instObj C dx) ∧
      ∃ mA,h.Ns1 dx mA∧(∀ f,RelO (fs.lookup f) (mA f))∧PySem.Within mA (fs.map (·.1))
  | .own _=>∃ o,h.get? a=some o
  | .xd fs=>∃ mA,h.Ns1 a mA∧∀ f,RelO (fs.lookup f) (mA f)
  | .rng lo hi=>∃ t u v,h.get? a=some { cls:=.type "range", data:=.fields #[.int lo t,.int hi u,.int 1 v] }
  | .frz o u=>h.get? a=some o∧ObjOk H h a u
  | .tbl ps=>h.get? a=some { cls:=.none,data:=.fields ps }
  | .met f x=>h.get? a=some (PySem.W.methodObj (.ref f) (.ref x))
  | .ext φ=>φ h∧(∃ o,h.get? a=some o)∧∀ h1 h2:Heap,φ h1→(∀ o,h1.get? a=some o→h2.get? a=some o)→φ h2
def HOk (H:Hp) (h:Heap):Prop:=∀ a o,H a=some o→ObjOk P w H h a o
end
section
variable {P:Program} {w:World} {H H':Hp} {h h':Heap} {a:Addr} {o:HO}
theorem ObjOk.lt (x:ObjOk P w H h a o):a < h.objs.size:=by
  cases o with
  | lst xs=>obtain ⟨_,_,_,_,e⟩:=x;exact Heap.lt_size e
  | tup xs=>obtain ⟨_,_,_,p⟩:=x;exact p.lt
  | dK kvs=>obtain ⟨_,_,_,_,o,_,_,e,_⟩:=x;exact Heap.lt_size e
  | dT kvs=>obtain ⟨_,_,_,_,o,_,_,e,_⟩:=x;exact Heap.lt_size e
  | set S n=>obtain ⟨o,_,_,_,e,_⟩:=x;exact Heap.lt_size e
  | ins C dx fs=>obtain ⟨_,_,_,e,_⟩:=x;exact Heap.lt_size e
  | own y=>obtain ⟨_,e⟩:=x;exact Heap.lt_size e
  | xd fs=>obtain ⟨_,⟨_,_,_,e,_⟩,_⟩:=x;exact Heap.lt_size e
  | rng lo hi=>obtain ⟨_,_,_,e⟩:=x;exact Heap.lt_size e
  | frz ob u=>obtain ⟨e,_⟩:=x;exact Heap.lt_size e
  | tbl ps=>exact Heap.lt_size (show h.get? a=some _ from x)
  | met f y=>exact Heap.lt_size (show h.get? a=some _ from x)
  | ext φ=>obtain ⟨_,⟨_,e⟩,_⟩:=x;exact Heap.lt_size e
theorem Paired.mapP {α β:Type} {F G:α→β→Prop}:∀ {l₁:List α} {l₂:List β},Paired F l₁ l₂→(∀ a b,F a b→G a b)→Paired G l₁ l₂
  | _,_,.nil,_=>.nil
  | _,_,.cons r t,f=>.cons (f _ _ r) (Paired.mapP t f)
theorem ObjOk.stay (x:ObjOk P w H h a o) (k:∀ b u,(b=a∨H b=some (.own a))→h.get? b=some u→h'.get? b=some u)
    (ho:∀ b,H b=some (.own a)→H' b=some (.own a)) (ht:∀ b xs,H b=some (.tup xs)→H' b=some (.tup xs)):ObjOk P w H' h' a o:=by
  induction o with
  | lst xs=>obtain ⟨z,its,n,r,e⟩:=x;exact ⟨z,its,n,r,k _ _ (.inl rfl) e⟩
  | tup xs=>obtain ⟨z,its,r,ob,e,c⟩:=x;exact ⟨z,its,r,ob,k _ _ (.inl rfl) e,c⟩
  | dK kvs=>obtain ⟨z,y,vs,r,ob,es,ep,e,c⟩:=x;exact ⟨z,y,vs,r,ob,es,ep,k _ _ (.inl rfl) e,c⟩
  | dT kvs =>
    obtain ⟨z,y,xs,r,ob,es,ep,e,c⟩:=x
    exact ⟨z,y,xs,Paired.mapP r fun p q z=>⟨z.1,ht _ _ z.2.1,z.2.2⟩,ob,es,ep,k _ _ (.inl rfl) e,c⟩
  | set S n=>obtain ⟨ob,es,ep,t,e,c⟩:=x;exact ⟨ob,es,ep,t,k _ _ (.inl rfl) e,c⟩
  | ins C dx fs =>
    obtain ⟨d,z,ne,e,mA,⟨od,es,ep,e2,c⟩,r⟩:=x
    exact ⟨ho _ d,z,ne,k _ _ (.inl rfl) e,mA,⟨od,es,ep,k _ _ (.inr d) e2,c⟩,r⟩
  | own y=>obtain ⟨ob,e⟩:=x;exact ⟨ob,k _ _ (.inl rfl) e⟩
  | xd fs=>obtain ⟨mA,⟨od,es,ep,e,c⟩,r⟩:=x;exact ⟨mA,⟨od,es,ep,k _ _ (.inl rfl) e,c⟩,r⟩
  | rng lo hi=>obtain ⟨t,u,v,e⟩:=x;exact ⟨t,u,v,k _ _ (.inl rfl) e⟩
  | frz ob u ih=>obtain ⟨e,q⟩:=x;exact ⟨k _ _ (.inl rfl) e,ih q⟩
  | tbl ps =>
    have e:h.get? a=some { cls:=.none,data:=.fields ps }:=x
    show h'.get? a=some { cls:=.none,data:=.fields ps }
    exact k a _ (.inl rfl) e
  | met f y =>
    have e:h.get? a=some (PySem.W.methodObj (.ref f) (.ref y)):=x
    show h'.get? a=some (PySem.W.methodObj (.ref f) (.ref y))
    exact k a _ (.inl rfl) e
  | ext φ=>obtain ⟨p,⟨o,e⟩,st⟩:=x;exact ⟨st _ _ p fun o q=>k _ _ (.inl rfl) q,⟨o,k _ _ (.inl rfl) e⟩,st⟩
theorem HOk.lt (x:HOk P w H h) (e:H a=some o):a < h.objs.size:=(x a o e).lt
theorem HOk.fresh (x:HOk P w H h) (e:h.objs.size≤a):H a=none:=by
  cases q:H a with
  | none=>rfl
  | some u=>exact absurd (Nat.lt_of_lt_of_le (x.lt q) e) (Nat.lt_irrefl _)
theorem HOk.kept (x:HOk P w H h) (k:∀ b u,h.get? b=some u→h'.get? b=some u):HOk P w H h':=fun a o e =>
  (x a o e).stay (fun b u _ q=>k b u q) (fun _ q=>q) fun _ _ q=>q
theorem HOk.laid (x:HOk P w H h) (k:∀ b u,h.get? b=some u→h'.get? b=some u) (hp:h.objs.size≤a) (new:ObjOk P w (upd H a o) h' a o):HOk P w (upd H a o) h':=fun b u e=>by
  have hn:=x.fresh hp
  by_cases hb:b=a
  · subst hb;rw [upd_same] at e;cases e;exact new
  · rw [upd_ne hb] at e
    exact (x b u e).stay (fun c v _ q=>k c v q) (fun c q=>by rw [upd_ne (ne_of_none q hn)];exact q) fun c xs q=>by rw [upd_ne (ne_of_none q hn)];exact q
end
def Rd (H:Hp) (a:Addr) (u:HO):Prop:=H a=some u∨∃ o,H a=some (.frz o u)
theorem Rd.ok {P:Program} {w:World} {H:Hp} {h:Heap} {a:Addr} {u:HO} (r:Rd H a u) (x:HOk P w H h):ObjOk P w H h a u:=by
  rcases r with r | ⟨o,r⟩
  · exact x a u r
  · obtain ⟨_,q⟩:=x a _ r
    exact q
def Mut:Option HO→Prop
  | some (.lst _)=>True
  | some (.dK _)=>True
  | some (.dT _)=>True
  | some (.set _ _)=>True
  | some (.ins _ _ _)=>True
  | some (.ext _)=>True
  | _=>False
section
variable {P:Program} {w:World} {H:Hp} {h h':Heap} {x e:Addr} {o':HO}
theorem HOk.write (ok:HOk P w H h) (mu:Mut (H x)) (he:e=x∨H e=some (.own x)) (k:∀ b u,b≠e→h.get? b=some u→h'.get? b=some u) (heo:∃ u,h'.get? e=some u)
    (new:ObjOk P w (upd H x o') h' x o'):HOk P w (upd H x o') h':=fun b u q=>by
  have nown:∀ c y,H c=some (.own y)→c≠x:=fun c y r z=>by subst z;rw [r] at mu;exact mu
  have ntup:∀ c xs,H c=some (.tup xs)→c≠x:=fun c xs r z=>by subst z;rw [r] at mu;exact mu
  by_cases hb:b=x
  · subst hb;rw [upd_same] at q;cases q;exact new
  · rw [upd_ne hb] at q
    by_cases hbe:b=e
    · have q':H b=some (.own x):=by
        rcases he with z | z
        · exact absurd (hbe.trans z) hb
        · rw [hbe];exact z
      rw [q] at q';cases q'
      obtain ⟨v,hv⟩:=heo
      exact ⟨v,by rw [hbe];exact hv⟩
    · refine (ok b u q).stay (fun c v hc r=>k c v ?_ r) (fun c r=>by rw [upd_ne (nown c b r)];exact r) fun c xs r=>by rw [upd_ne (ntup c xs r)];exact r
      rcases hc with rfl | hc
      · exact hbe
      · rintro rfl
        rcases he with z | z
        · exact nown c b hc z
        · rw [hc] at z;cases z;exact hb rfl
end
structure Un (fs ex:List Addr) (H H':Hp) (h h':Heap):Prop where
  keep:∀ b o,h.get? b=some o→H b=none→b ∉ fs→b ∉ ex→h'.get? b=some o
  slot:∀ b o,h.get? b=some o→H b=none→b ∈ fs→b ∉ ex→∃ sl,h'.get? b=some { o with slots:=sl }
  free:∀ b o,h.get? b=some o→H b=none→b ∉ ex→H' b=none
  there:∀ b o,h.get? b=some o→b ∉ ex→∃ o',h'.get? b=some o'
  tups:∀ b xs,H b=some (.tup xs)→H' b=some (.tup xs)
  frzs:∀ b o u,H b=some (.frz o u)→H' b=some (.frz o u)
  tbls:∀ b ps,H b=some (.tbl ps)→∃ more,H' b=some (.tbl (ps ++ more))
section
variable {fs fs' ex ex':List Addr} {H H1 H2:Hp} {h h1 h2 h':Heap} {a x e:Addr} {o:HO}
theorem Un.any (u:Un fs ex H H1 h h1) {b:Addr} {ob:Obj} (q:h.get? b=some ob) (n:H b=none) (hx:b ∉ ex):∃ sl,h1.get? b=some { ob with slots:=sl }:=by
  by_cases hb:b ∈ fs
  · exact u.slot b ob q n hb hx
  · exact ⟨ob.slots,u.keep b ob q n hb hx⟩
theorem Un.kept (k:∀ b u,h.get? b=some u→h'.get? b=some u):Un fs ex H H h h' :=
  ⟨fun b ob q _ _ _=>k b ob q,fun b ob q _ _ _=>⟨ob.slots,k b ob q⟩,fun _ _ _ n _=>n,fun b ob q _=>⟨ob,k b ob q⟩,fun _ _ q=>q,fun _ _ _ q=>q,fun _ ps q=>⟨#[],by rw [q];simp⟩⟩
theorem Un.refl:Un fs ex H H h h:=Un.kept fun _ _ q=>q
theorem Un.laid (k:∀ b u,h.get? b=some u→h'.get? b=some u) (hp:h.objs.size≤a) (hn:H a=none):Un fs ex H (upd H a o) h h' where
  keep:=fun b u q _ _ _=>k b u q
  slot:=fun b u q _ _ _=>⟨u.slots,k b u q⟩
  free:=fun b u q n _=>by rw [upd_ne (Nat.ne_of_lt (Nat.lt_of_lt_of_le (Heap.lt_size q) hp))];exact n
  there:=fun b u q _=>⟨u,k b u q⟩
  tups:=fun b xs q=>by rw [upd_ne (ne_of_none q hn)];exact q
  frzs:=fun b u xs q=>by rw [upd_ne (ne_of_none q hn)];exact q
  tbls:=fun b ps q=>⟨#[],by rw [upd_ne (ne_of_none q hn),q];simp⟩
theorem Un.write (mu:Mut (H x)) (he:e=x∨H e=some (.own x)) (k:∀ b u,b≠e→h.get? b=some u→h'.get? b=some u) (heo:∃ u,h'.get? e=some u):Un fs ex H (upd H x o) h h':=by
  have hx:∀ b,H b=none→b≠x:=fun b n z=>by subst z;rw [n] at mu;exact mu
  have hb:∀ b,H b=none→b≠e:=fun b n z=>by
    subst z
    rcases he with r | r
    · exact hx b n r
    · rw [n] at r;cases r
  have hm:∀ b u,H b=some u→¬ Mut (some u)→b≠x:=fun b u q nm z=>by subst z;rw [q] at mu;exact nm mu
  refine ⟨fun b u q n _ _=>k b u (hb b n) q,fun b u q n _ _=>⟨u.slots,k b u (hb b n) q⟩,fun b u q n _=>by rw [upd_ne (hx b n)];exact n,fun b u q _=>?_,
    fun b xs q=>by rw [upd_ne (hm b _ q fun z=>z)];exact q,fun b u xs q=>by rw [upd_ne (hm b _ q fun z=>z)];exact q,fun b ps q=>⟨#[],by rw [upd_ne (hm b _ q fun z=>z),q];simp⟩⟩
  by_cases hbe:b=e
  · subst hbe;exact heo
  · exact ⟨u,k b u hbe q⟩
end
def trk (h:Heap) (H:Hp):List Addr:=(List.range h.objs.size).filter fun a=>(H a).isSome
def hidT (h:Heap) (H:Hp):Heap:=PySem.W.hideAll h (trk h H)
theorem hidT_size (h:Heap) (H:Hp):(hidT h H).objs.size=h.objs.size:=PySem.W.hideAll_size _ _
theorem hidT_get {h:Heap} {H:Hp} {b:Addr} {o:Obj} (e:h.get? b=some o) (n:H b=none):(hidT h H).get? b=some o :=
  PySem.W.hideAll_get _ e fun hm=>by
    have q:(H b).isSome=true:=(List.mem_filter.mp hm).2
    rw [n] at q;simp at q
theorem of_hidT {h:Heap} {H:Hp} {b:Addr} {o:Obj} (e:(hidT h H).get? b=some o):h.get? b=some o∧H b=none:=by
  have e':h.get? b=some o:=PySem.W.of_hideAll (trk h H) e
  refine ⟨e',?_⟩
  cases q:H b with
  | none=>rfl
  | some x =>
    have hm:b ∈ trk h H:=List.mem_filter.mpr ⟨List.mem_range.mpr (Heap.lt_size e'),by simp [q]⟩
    have z:(hidT h H).get? b=none:=PySem.W.hideAll_none (trk h H) hm
    rw [z] at e;cases e
def allNews (g h:Heap) (L:Addr):List (Addr × Obj):=(List.range h.objs.size).filterMap fun a=>if a=L∨(g.get? a).isSome=true then none else (h.get? a).map fun o=>(a,o)
def rest (g h:Heap) (L d:Addr):List (Addr × Obj):=(allNews g h L).filter fun p=>decide (p.1≠d)
end L2
namespace L2
open PySem PySem.Spec PyProof.Rows
structure Mod (K:PySem.W.Frag) (mg:Str→Option Value) (base:Heap):Prop where
  kin:K.In base
  glob:base.Ns mainGlobals mg
  blt:∃ mb,base.Ns builtinsNs mb∧∀ x:Str,x ≠ "__name__" → mb x=bootBuiltins x
  nolimit:base.NoLimit
structure Cx where
  prog:Program
  w:World
  K:PySem.W.Frag
  mg:Str→Option Value
  base:Heap
  A:Around
  N:List Str
  s₀:Shared
  H₀:Hp
  env:Env
  outer:List Env
  stack:List Env
  ex:List Addr
  fn:Str→Bool
  calm:Bool
  pn:List (Addr × Obj)
  xe:Value→Shared→Prop
def frs (l:List Env):List Addr:=l.filterMap (·.frame)
abbrev Cx.fs (X:Cx):List Addr:=frs X.outer
def Vis (sc:Scope) (x:Str):Prop:=sc.names.lookup x=some .local∨sc.names.lookup x=some .cell∨sc.names.lookup x=some .free
def Loc (sc:Scope) (x:Str):Prop:=sc.names.lookup x=some .local∨sc.names.lookup x=some .cell
def Look (env:Env) (h:Heap) (m:Str→Option Value) (x:Str) (u:Value):Prop :=
  (env.kindOf x=some .local∧m x=some u)∨((env.kindOf x=some .cell∨env.kindOf x=some .free)∧∃ c,env.cells.lookup x=some c∧h.IsCell c (some u))
structure Cx.Ok (X:Cx):Prop where
  mod:Mod X.K X.mg X.base
  kind:X.env.scope.kind=.function
  glob:X.env.globals=mainGlobals
  blt:X.env.builtins=builtinsNs
  above:X.s₀.heap.objs.size≤X.env.locals
  inj:∀ x y c,X.env.cells.lookup x=some c→X.env.cells.lookup y=some c→x=y
  has:∀ x,(X.env.kindOf x=some .cell∨X.env.kindOf x=some .free)→∃ c,X.env.cells.lookup x=some c
  cab:∀ x c,X.fn x=true→X.env.cells.lookup x=some c→X.s₀.heap.objs.size≤c
  hd:X.calm=true→X.A.handled=none
  frames:X.A.frames=some X.stack
  stk:X.stack=X.outer∨(X.stack=X.env :: X.outer∧X.env.frame=some X.env.locals)
  exf:∀ b ∈ X.ex,b≠X.env.locals∧∀ x c,X.env.cells.lookup x=some c→c≠b
  bs:∀ b o,X.base.get? b=some o→X.s₀.heap.get? b=some o∧X.H₀ b=none
  bsz:X.base.objs.size≤X.s₀.heap.objs.size
  noex:∀ b o,X.base.get? b=some o→b ∉ X.ex
  exfs:∀ b ∈ X.ex,b ∉ X.fs
  funs:X.s₀.heap.FunFrames X.base X.outer
  frf:∀ b ∈ X.fs,X.H₀ b=none
structure Inv (X:Cx) (pins:List (Addr × Obj)) (σ:List (Option V)) (H:Hp) (s:Shared):Prop where
  ok:X.Ok
  os:s.os=X.s₀.os
  bare:AllBare s.gens
  base:Un X.fs X.ex X.H₀ H X.s₀.heap s.heap
  loc:∃ m,s.heap.Ns X.env.locals m∧∀ (i:Nat) (x:Str) (v:V),X.N[i]?=some x→σ[i]?=some (some v)→Vis X.env.scope x→∃ u,RelV v u∧Look X.env s.heap m x u
  cell:∀ x c,X.env.cells.lookup x=some c→∃ v,s.heap.IsCell c v
  free:H X.env.locals=none
  freeC:∀ x c,X.env.cells.lookup x=some c→H c=none
  pin:∀ p ∈ X.pn ++ pins,s.heap.get? p.1=some p.2∧H p.1=none∧p.1≠X.env.locals∧p.1 ∉ X.fs∧∀ v,p.2.data≠.cell v
  hok:HOk X.prog X.w H s.heap
  len:σ.length=X.N.length
section
variable {X:Cx} {pins:List (Addr × Obj)} {σ:List (Option V)} {H H':Hp} {s:Shared} {h':Heap}
theorem Cx.Ok.nofr (ok:X.Ok) {b:Addr} {o:Obj} (e:X.base.get? b=some o):b ∉ X.fs:=fun hb=>by
  have:=(ok.funs.mem hb).1
  rw [e] at this;cases this
theorem Inv.bs (I:Inv X pins σ H s):∀ b o,X.base.get? b=some o→s.heap.get? b=some o∧H b=none:=fun b o e =>
  ⟨I.base.keep b o (I.ok.bs b o e).1 (I.ok.bs b o e).2 (I.ok.nofr e) (I.ok.noex b o e),I.base.free b o (I.ok.bs b o e).1 (I.ok.bs b o e).2 (I.ok.noex b o e)⟩
theorem Inv.bk (I:Inv X pins σ H s):∀ b o,X.base.get? b=some o→s.heap.get? b=some o:=fun b o e=>(I.bs b o e).1
theorem Inv.mod (I:Inv X pins σ H s):Mod X.K X.mg X.base:=I.ok.mod
theorem Inv.kIn (I:Inv X pins σ H s):X.K.In s.heap:=I.ok.mod.kin.keeps I.bk
theorem Inv.lt (I:Inv X pins σ H s):X.env.locals < s.heap.objs.size:=let ⟨_,hn,_⟩:=I.loc;hn.lt
theorem Inv.sz (I:Inv X pins σ H s):X.s₀.heap.objs.size≤s.heap.objs.size:=Nat.le_trans I.ok.above (Nat.le_of_lt I.lt)
theorem Inv.nofs (I:Inv X pins σ H s) {a:Addr} (h:s.heap.objs.size≤a):a ∉ X.fs:=fun hb=>by
  obtain ⟨_,o,ho,_⟩:=I.ok.funs.mem hb
  exact absurd (Nat.lt_of_lt_of_le (Heap.lt_size ho) (Nat.le_trans I.sz h)) (Nat.lt_irrefl _)
theorem Inv.cne (I:Inv X pins σ H s):∀ x c,X.env.cells.lookup x=some c→c≠X.env.locals:=fun x c e z=>by
  obtain ⟨v,o,ho,hd⟩:=I.cell x c e
  obtain ⟨m,⟨o',es,ep,ho',hd',_⟩,_⟩:=I.loc
  rw [z,ho'] at ho;cases ho;rw [hd'] at hd;cases hd
theorem Inv.funs (I:Inv X pins σ H s):s.heap.FunFrames X.base X.outer:=by
  have all:∀ (l:List Env),(∀ b ∈ frs l,b ∈ X.fs)→X.s₀.heap.FunFrames X.base l→s.heap.FunFrames X.base l:=by
    intro l
    induction l with
    | nil=>intro _ _;trivial
    | cons env r ih =>
      intro hs hl
      obtain ⟨hk,⟨L,o,hf,hn,ho,hd⟩,hr⟩:=hl
      have hL:L ∈ X.fs:=hs L (by unfold frs;rw [List.filterMap_cons,hf];exact List.mem_cons_self)
      obtain ⟨sl,e⟩:=I.base.slot L o ho (I.ok.frf L hL) hL fun z=>I.ok.exfs L z hL
      exact ⟨hk,⟨L,_,hf,hn,e,hd⟩,ih (fun b hb=>hs b (by unfold frs;rw [List.filterMap_cons,hf];exact List.mem_cons_of_mem _ hb)) hr⟩
  exact all X.outer (fun _ hb=>hb) I.ok.funs
theorem Inv.stack (I:Inv X pins σ H s):s.heap.FunFrames X.base X.stack:=by
  rcases I.ok.stk with e | ⟨e,hf⟩
  · rw [e];exact I.funs
  · rw [e]
    obtain ⟨m,hn,_⟩:=I.loc
    refine .cons (by rw [I.ok.kind];decide) hf hn ?_ I.funs
    exact Heap.get?_none_of_le (Nat.le_trans I.ok.bsz I.ok.above)
theorem Inv.stkSub (I:Inv X pins σ H s):∀ b ∈ frs X.stack,b ∈ X.env.locals :: X.fs:=fun b hb=>by
  rcases I.ok.stk with e | ⟨e,hf⟩
  · rw [e] at hb;exact List.mem_cons_of_mem _ hb
  · rw [e] at hb
    unfold frs at hb
    rw [List.filterMap_cons,hf] at hb
    exact hb
theorem Inv.stkFree (I:Inv X pins σ H s):∀ b ∈ frs X.stack,H b=none:=fun b hb=>by
  rcases List.mem_cons.mp (I.stkSub b hb) with e | hb
  · rw [e];exact I.free
  · obtain ⟨_,o,ho,_⟩:=I.ok.funs.mem hb
    exact I.base.free b o ho (I.ok.frf b hb) fun z=>I.ok.exfs b z hb
theorem Inv.step {g':Array GenState} {t':Nat} {d':Drawn} {ch:List Addr} (I:Inv X pins σ H s)
    (hch:∀ b ∈ ch,(b ∈ X.ex∨X.s₀.heap.objs.size≤b)∧b≠X.env.locals∧(∀ x c,X.env.cells.lookup x=some c→c≠b)∧∀ p ∈ X.pn ++ pins,p.1≠b)
    (keep:∀ b o,b≠X.env.locals→b ∉ X.fs→b ∉ ch→s.heap.get? b=some o→H b=none→h'.get? b=some o)
    (slot:∀ b o,b≠X.env.locals→b ∈ X.fs→b ∉ ch→s.heap.get? b=some o→H b=none→∃ sl,h'.get? b=some { o with slots:=sl }) (free:∀ b o,b ∉ ch→s.heap.get? b=some o→H b=none→H' b=none)
    (there:∀ b o,b ∉ ch→s.heap.get? b=some o→∃ o',h'.get? b=some o')
    (tups:∀ b xs,H b=some (.tup xs)→H' b=some (.tup xs)) (frzs:∀ b o u,H b=some (.frz o u)→H' b=some (.frz o u)) (tbls:∀ b ps,H b=some (.tbl ps)→∃ more,H' b=some (.tbl (ps ++ more)))
    (ns:∀ m,s.heap.Ns X.env.locals m→h'.Ns X.env.locals m) (hok:HOk X.prog X.w H' h') (hg:AllBare g') :
    Inv X pins σ H' { s with heap:=h',gens:=g',drawn:=d',toks:=t' }:=by
  have neL:∀ b o,X.s₀.heap.get? b=some o→b≠X.env.locals:=fun b o e=>Nat.ne_of_lt (Nat.lt_of_lt_of_le (Heap.lt_size e) I.ok.above)
  have neC:∀ b o,X.s₀.heap.get? b=some o→b ∉ X.ex→b ∉ ch:=fun b o e hx hb=>by
    rcases (hch b hb).1 with z | z
    · exact hx z
    · exact absurd (Nat.lt_of_lt_of_le (Heap.lt_size e) z) (Nat.lt_irrefl _)
  have cellK:∀ x c,X.env.cells.lookup x=some c→∀ v,s.heap.IsCell c v→h'.IsCell c v:=fun x c e v ⟨o,ho,hd⟩=>by
    have nch:c ∉ ch:=fun z=>(hch c z).2.2.1 x c e rfl
    by_cases hc:c ∈ X.fs
    · obtain ⟨sl,q⟩:=slot c o (I.cne x c e) hc nch ho (I.freeC x c e)
      exact ⟨_,q,hd⟩
    · exact ⟨o,keep c o (I.cne x c e) hc nch ho (I.freeC x c e),hd⟩
  refine ⟨I.ok,I.os,hg,⟨fun b o e n hb hx=>?_,fun b o e n hb hx=>?_,fun b o e n hx=>?_,fun b o e hx=>?_,fun b xs e=>tups b xs (I.base.tups b xs e),fun b o xs e=>frzs b o xs (I.base.frzs b o xs e),fun b ps e=>?_⟩,?_,fun x c e=>?_,?_,fun x c e=>?_,fun p hp=>?_,hok,I.len⟩
  · exact keep b o (neL b o e) hb (neC b o e hx) (I.base.keep b o e n hb hx) (I.base.free b o e n hx)
  · obtain ⟨sl,e1⟩:=I.base.slot b o e n hb hx
    obtain ⟨sl',e2⟩:=slot b _ (neL b o e) hb (neC b o e hx) e1 (I.base.free b o e n hx)
    exact ⟨sl',e2⟩
  · obtain ⟨o',e1⟩:=I.base.there b o e hx
    exact free b o' (neC b o e hx) e1 (I.base.free b o e n hx)
  · obtain ⟨o',e1⟩:=I.base.there b o e hx
    exact there b o' (neC b o e hx) e1
  · obtain ⟨m1,e1⟩:=I.base.tbls b ps e
    obtain ⟨m2,e2⟩:=tbls b _ e1
    exact ⟨m1 ++ m2,by rw [e2,Array.append_assoc]⟩
  · obtain ⟨m,hn,hl⟩:=I.loc
    refine ⟨m,ns m hn,fun i x v e1 e2 e3=>?_⟩
    obtain ⟨u,r,l⟩:=hl i x v e1 e2 e3
    refine ⟨u,r,?_⟩
    rcases l with l | ⟨k,c,e,z⟩
    · exact .inl l
    · exact .inr ⟨k,c,e,cellK x c e _ z⟩
  · obtain ⟨v,z⟩:=I.cell x c e
    exact ⟨v,cellK x c e v z⟩
  · obtain ⟨m,⟨o,_,_,ho,_⟩,_⟩:=I.loc
    exact free _ o (fun z=>(hch _ z).2.1 rfl) ho I.free
  · obtain ⟨v,o,ho,hd⟩:=I.cell x c e
    exact free c o (fun z=>(hch c z).2.2.1 x c e rfl) ho (I.freeC x c e)
  · obtain ⟨e,n,ne,nf,d⟩:=I.pin p hp
    have nch:p.1 ∉ ch:=fun z=>(hch p.1 z).2.2.2 p hp rfl
    exact ⟨keep p.1 p.2 ne nf nch e n,free p.1 p.2 nch e n,ne,nf,d⟩
theorem Inv.un {t':Nat} (I:Inv X pins σ H s) (u:Un X.fs [] H H' s.heap h') (hok:HOk X.prog X.w H' h'):Inv X pins σ H' { s with heap:=h',toks:=t' }:=by
  obtain ⟨m,⟨o,es,ep,ho,r⟩,_⟩:=id I.loc
  obtain ⟨sl,hL⟩:=u.any ho I.free (by simp)
  exact I.step (g':=s.gens) (d':=s.drawn) (ch:=[]) (fun _ z=>nomatch z) (fun b o _ hb _ e n=>u.keep b o e n hb (by simp)) (fun b o _ hb _ e n=>u.slot b o e n hb (by simp)) (fun b o _ e n=>u.free b o e n (by simp)) (fun b o _ e=>u.there b o e (by simp)) u.tups u.frzs u.tbls (fun m' hm=>by
    obtain ⟨o',es',ep',ho',r'⟩:=hm
    rw [ho] at ho';cases ho'
    exact ⟨_,es',ep',hL,r'⟩) hok I.bare
theorem Inv.call {g':Array GenState} {t':Nat} {d':Drawn} {ch:List Addr} (I:Inv X pins σ H s) (u:Un (frs X.stack) ch H H' s.heap h') (hok:HOk X.prog X.w H' h') (hg:AllBare g')
    (hch:∀ b ∈ ch,(b ∈ X.ex∨X.s₀.heap.objs.size≤b)∧b≠X.env.locals∧(∀ x c,X.env.cells.lookup x=some c→c≠b)∧∀ p ∈ X.pn ++ pins,p.1≠b) :
    Inv X pins σ H' { s with heap:=h',gens:=g',drawn:=d',toks:=t' }:=by
  obtain ⟨m,⟨o,es,ep,ho,r⟩,_⟩:=id I.loc
  obtain ⟨sl,hL⟩:=u.any ho I.free fun z=>(hch _ z).2.1 rfl
  exact I.step (ch:=ch) hch (fun b o hL hb hc e n=>u.keep b o e n (fun z=>(List.mem_cons.mp (I.stkSub b z)).elim hL hb) hc) (fun b o _ _ hc e n=>u.any e n hc) (fun b o hc e n=>u.free b o e n hc) (fun b o hc e=>u.there b o e hc) u.tups u.frzs u.tbls (fun m' hm=>by
    obtain ⟨o',es',ep',ho',r'⟩:=hm
    rw [ho] at ho';cases ho'
    exact ⟨_,es',ep',hL,r'⟩) hok hg
theorem Inv.turned {t':Nat} {it:Addr} (I:Inv X pins σ H s) (k:∀ b o,b≠it→s.heap.get? b=some o→h'.get? b=some o) (hn:H it=none) (hL:it≠X.env.locals)
    (h1:it ∈ X.ex∨X.s₀.heap.objs.size≤it) (h2:∀ x c,X.env.cells.lookup x=some c→c≠it) (h3:∀ p ∈ X.pn ++ pins,p.1≠it):Inv X pins σ H { s with heap:=h',toks:=t' }:=by
  have nit:∀ b u,H b=some u→b≠it:=fun b u e z=>by rw [z,hn] at e;cases e
  refine I.step (g':=s.gens) (d':=s.drawn) (ch:=[it]) (fun b hb=>?_) (fun b o _ _ hc e _=>k b o (fun z=>hc (by simp [z])) e) (fun b o _ _ hc e _=>⟨o.slots,k b o (fun z=>hc (by simp [z])) e⟩) (fun _ _ _ _ n=>n)
    (fun b o hc e=>⟨o,k b o (fun z=>hc (by simp [z])) e⟩) (fun _ _ e=>e) (fun _ _ _ e=>e) (fun b ps e=>⟨#[],by rw [e];simp⟩) (fun m hm=>?_) (fun b u e=>?_) I.bare
  · have e:b=it:=by simpa using hb
    subst e
    exact ⟨h1,hL,h2,h3⟩
  · obtain ⟨o,es,ep,ho,r⟩:=hm
    exact ⟨o,es,ep,k _ o (Ne.symm hL) ho,r⟩
  · refine (I.hok b u e).stay (fun c v hc q=>k c v ?_ q) (fun _ q=>q) fun _ _ q=>q
    rcases hc with z | z
    · rw [z];exact nit b u e
    · exact nit c _ z
theorem Inv.tok (I:Inv X pins σ H s) (t:Nat):Inv X pins σ H { s with toks:=t }:=I.un (h':=s.heap) (t':=t) Un.refl I.hok
theorem Inv.kept {t':Nat} (I:Inv X pins σ H s) (k:∀ b u,s.heap.get? b=some u→h'.get? b=some u):Inv X pins σ H { s with heap:=h',toks:=t' }:=I.un (Un.kept k) (I.hok.kept k)
theorem Inv.laid {a:Addr} {o:HO} {t':Nat} (I:Inv X pins σ H s) (k:∀ b u,s.heap.get? b=some u→h'.get? b=some u) (hp:s.heap.objs.size≤a) (new:ObjOk X.prog X.w (upd H a o) h' a o) :
    Inv X pins σ (upd H a o) { s with heap:=h',toks:=t' }:=I.un (Un.laid k hp (I.hok.fresh hp)) (I.hok.laid k hp new)
theorem Inv.write {x e:Addr} {o:HO} {t':Nat} (I:Inv X pins σ H s) (mu:Mut (H x)) (he:e=x∨H e=some (.own x)) (k:∀ b u,b≠e→s.heap.get? b=some u→h'.get? b=some u) (heo:∃ u,h'.get? e=some u)
    (new:ObjOk X.prog X.w (upd H x o) h' x o):Inv X pins σ (upd H x o) { s with heap:=h',toks:=t' }:=I.un (Un.write mu he k heo) (I.hok.write mu he k heo new)
theorem Inv.pins_of {pins':List (Addr × Obj)} (I:Inv X pins σ H s) (h:∀ p ∈ pins',s.heap.get? p.1=some p.2∧H p.1=none∧p.1≠X.env.locals∧p.1 ∉ X.fs∧∀ v,p.2.data≠.cell v):Inv X pins' σ H s :=
  ⟨I.ok,I.os,I.bare,I.base,I.loc,I.cell,I.free,I.freeC,fun p hp=>(List.mem_append.mp hp).elim (fun z=>I.pin p (List.mem_append_left _ z)) (h p),I.hok,I.len⟩
theorem nodup_ix {N:List Str} (hN:N.Nodup) {i j:Nat} {x:Str} (a:N[i]?=some x) (b:N[j]?=some x):i=j:=by
  obtain ⟨h1,e1⟩:=List.getElem?_eq_some_iff.mp a
  obtain ⟨h2,e2⟩:=List.getElem?_eq_some_iff.mp b
  exact (List.getElem_inj hN).mp (e1.trans e2.symm)
theorem store_ok2 {M:Model} {A:Around} {E:Value→Shared→Prop} {i:Nat} {x:Str} {v:V} {u:Value} {Q:Unit→Shared→Prop} (I:Inv X pins σ H s) (hN:X.N.Nodup) (hi:X.N[i]?=some x) (hx:Loc X.env.scope x) (r:RelV v u)
    (h:∀ s',Inv X pins (σ.set i (some v)) H s'→(∃ a,Heap.SameBut a s.heap s'.heap∧(a=X.env.locals∨X.env.cells.lookup x=some a))→Q () s') (hf:X.fn x=true∨X.env.scope.names.lookup x=some .local:=by first | exact .inl rfl | exact .inr rfl | assumption):wpAny M A (storeName X.env x u) Q E s:=by
  obtain ⟨m,hn,hl⟩:=id I.loc
  have hcls:(X.env.scope.kind == .class || (X.env.scope.kind == .module && X.env.locals != X.env.globals))=false:=by rw [I.ok.kind];rfl
  have hiσ:i < σ.length:=by rw [I.len];exact (List.getElem?_eq_some_iff.mp hi).1
  have cne:=I.cne
  have tracked:∀ {a:Addr} {h':Heap},(∃ o,s.heap.get? a=some o∧H a=none)→Heap.SameBut a s.heap h'→HOk X.prog X.w H h':=fun {a h'} ha hs b ob e=>by
    obtain ⟨_,_,hfree⟩:=ha
    refine (I.hok b ob e).stay (fun c w' hc q=>(hs.2 c ?_).trans q) (fun _ q=>q) fun _ _ q=>q
    rintro rfl
    rcases hc with rfl | hc
    · rw [hfree] at e;cases e
    · rw [hfree] at hc;cases hc
  rcases hx with hk | hk
  · refine wpAny_storeName_local hk hn (fun h' hn' hs=>?_) hcls
    obtain ⟨oL,_,_,hoL,_⟩:=id hn
    refine h _ ⟨I.ok,I.os,I.bare,⟨fun b o e n hb hx=>?_,fun b o e n hb hx=>?_,I.base.free,fun b o e hx=>?_,I.base.tups,I.base.frzs,I.base.tbls⟩,⟨_,hn',fun j y v' e1 e2 e3=>?_⟩,fun y c e=>?_,I.free,I.freeC,fun p hp=>?_,tracked ⟨oL,hoL,I.free⟩ hs,by simpa using I.len⟩ ⟨_,hs,.inl rfl⟩
    · exact (hs.2 b (Nat.ne_of_lt (Nat.lt_of_lt_of_le (Heap.lt_size e) I.ok.above))).trans (I.base.keep b o e n hb hx)
    · obtain ⟨sl,e1⟩:=I.base.slot b o e n hb hx
      exact ⟨sl,(hs.2 b (Nat.ne_of_lt (Nat.lt_of_lt_of_le (Heap.lt_size e) I.ok.above))).trans e1⟩
    · obtain ⟨o',e1⟩:=I.base.there b o e hx
      exact ⟨o',(hs.2 b (Nat.ne_of_lt (Nat.lt_of_lt_of_le (Heap.lt_size e) I.ok.above))).trans e1⟩
    · by_cases hj:j=i
      · subst hj
        rw [hi] at e1;cases e1
        rw [List.getElem?_set_self hiσ] at e2
        cases e2
        exact ⟨u,r,.inl ⟨hk,by simp⟩⟩
      · rw [List.getElem?_set_ne (Ne.symm hj)] at e2
        obtain ⟨u',r',q⟩:=hl j y v' e1 e2 e3
        refine ⟨u',r',?_⟩
        rcases q with ⟨k,e⟩ | ⟨k,c,e,z⟩
        · refine .inl ⟨k,?_⟩
          have:y≠x:=fun e=>hj (nodup_ix hN e1 (e ▸ hi))
          simp [this,e]
        · exact .inr ⟨k,c,e,z.sameBut hs (cne y c e)⟩
    · obtain ⟨w',z⟩:=I.cell y c e
      exact ⟨w',z.sameBut hs (cne y c e)⟩
    · obtain ⟨e,n,ne,nf,d⟩:=I.pin p hp
      exact ⟨(hs.2 p.1 ne).trans e,n,ne,nf,d⟩
  · have hfn:X.fn x=true:=by
      rcases hf with z | z
      · exact z
      · rw [z] at hk;cases hk
    obtain ⟨c,hc⟩:=I.ok.has x (.inl hk)
    obtain ⟨w',z⟩:=I.cell x c hc
    refine wpAny_storeName_cell I.ok.kind hk hc z (fun h' hc' hs=>?_)
    obtain ⟨oc,hoc,hocd⟩:=id z
    refine h { s with heap:=h' } ⟨I.ok,I.os,I.bare,⟨fun b o e n hb hx=>?_,fun b o e n hb hx=>?_,I.base.free,fun b o e hx=>?_,I.base.tups,I.base.frzs,I.base.tbls⟩,⟨m,hn.sameBut hs (Ne.symm (cne x c hc)),fun j y v' e1 e2 e3=>?_⟩,fun y c' e=>?_,I.free,I.freeC,fun p hp=>?_,tracked ⟨oc,hoc,I.freeC x c hc⟩ hs,by simpa using I.len⟩ ⟨c,hs,.inr hc⟩
    · exact (hs.2 b (Nat.ne_of_lt (Nat.lt_of_lt_of_le (Heap.lt_size e) (I.ok.cab x c hfn hc)))).trans (I.base.keep b o e n hb hx)
    · obtain ⟨sl,e1⟩:=I.base.slot b o e n hb hx
      exact ⟨sl,(hs.2 b (Nat.ne_of_lt (Nat.lt_of_lt_of_le (Heap.lt_size e) (I.ok.cab x c hfn hc)))).trans e1⟩
    · obtain ⟨o',e1⟩:=I.base.there b o e hx
      exact ⟨o',(hs.2 b (Nat.ne_of_lt (Nat.lt_of_lt_of_le (Heap.lt_size e) (I.ok.cab x c hfn hc)))).trans e1⟩
    · by_cases hj:j=i
      · subst hj
        rw [hi] at e1;cases e1
        rw [List.getElem?_set_self hiσ] at e2
        cases e2
        exact ⟨u,r,.inr ⟨.inl hk,c,hc,hc'⟩⟩
      · rw [List.getElem?_set_ne (Ne.symm hj)] at e2
        obtain ⟨u',r',q⟩:=hl j y v' e1 e2 e3
        refine ⟨u',r',?_⟩
        rcases q with q | ⟨k,c',e,z'⟩
        · exact .inl q
        · refine .inr ⟨k,c',e,z'.sameBut hs ?_⟩
          rintro rfl
          exact hj (nodup_ix hN e1 (I.ok.inj _ _ _ e hc ▸ hi))
    · by_cases hcc:c'=c
      · subst hcc;exact ⟨_,hc'⟩
      · obtain ⟨w2,z2⟩:=I.cell y c' e
        exact ⟨w2,z2.sameBut hs hcc⟩
    · obtain ⟨e,n,ne,nf,d⟩:=I.pin p hp
      refine ⟨(hs.2 p.1 ?_).trans e,n,ne,nf,d⟩
      intro q
      rw [q,hoc] at e
      have q':oc=p.2:=Option.some.inj e
      exact d w' (by rw [← q'];exact hocd)
theorem store_ok {M:Model} {A:Around} {E:Value→Shared→Prop} {i:Nat} {x:Str} {v:V} {u:Value} {Q:Unit→Shared→Prop} (I:Inv X pins σ H s) (hN:X.N.Nodup) (hi:X.N[i]?=some x) (hx:Loc X.env.scope x) (r:RelV v u)
    (h:∀ s',Inv X pins (σ.set i (some v)) H s'→Q () s') (hf:X.fn x=true∨X.env.scope.names.lookup x=some .local:=by first | exact .inl rfl | exact .inr rfl | assumption):wpAny M A (storeName X.env x u) Q E s :=
  store_ok2 I hN hi hx r (fun s' I' _=>h s' I') hf
theorem Inv.call' {s':Shared} {ch:List Addr} (I:Inv X pins σ H s) (ho:s'.os=s.os) (u:Un (frs X.stack) ch H H' s.heap s'.heap) (hok:HOk X.prog X.w H' s'.heap) (hg:AllBare s'.gens)
    (hch:∀ b ∈ ch,(b ∈ X.ex∨X.s₀.heap.objs.size≤b)∧b≠X.env.locals∧(∀ x c,X.env.cells.lookup x=some c→c≠b)∧∀ p ∈ X.pn ++ pins,p.1≠b):Inv X pins σ H' s':=by
  obtain ⟨h',g',d',t',o'⟩:=s'
  have e:o'=s.os:=ho
  subst e
  exact I.call (g':=g') (t':=t') (d':=d') u hok hg hch
end
abbrev XK:=Value→Option Addr→Hp→Prop
abbrev St:=List (Option V)
abbrev VK:=V→Hp→Prop
abbrev TE:=St→Hp→VK→Prop
abbrev TT:=St→Hp→(Bool→Hp→Prop)→Prop
abbrev TA:=St→Hp→(List V→Hp→Prop)→Prop
structure Ends where
  nx:St→Hp→Prop
  rt:VK
  bk:St→Hp→Prop:=fun _ _=>False
  ct:St→Hp→Prop:=fun _ _=>False
abbrev TS:=Ends→St→Hp→Prop
def EP (X:Cx) (pins:List (Addr × Obj)) (σ:St) (Q:VK) (u:Value) (s':Shared):Prop:=∃ v H',Inv X pins σ H' s'∧RelV v u∧Q v H'
def TP (X:Cx) (pins:List (Addr × Obj)) (σ:St) (Q:Bool→Hp→Prop) (b:Bool) (s':Shared):Prop:=∃ H',Inv X pins σ H' s'∧Q b H'
def AP (X:Cx) (pins:List (Addr × Obj)) (σ:St) (Q:List V→Hp→Prop) (us:List Value) (s':Shared):Prop:=∃ vs H',Inv X pins σ H' s'∧Vals vs us∧Q vs H'
def SP (X:Cx) (pins:List (Addr × Obj)) (D:Ends) (f:Flow) (s':Shared):Prop :=
  match f with
  | .next=>∃ σ' H',Inv X pins σ' H' s'∧D.nx σ' H'
  | .brk=>∃ σ' H',Inv X pins σ' H' s'∧D.bk σ' H'
  | .cont=>∃ σ' H',Inv X pins σ' H' s'∧D.ct σ' H'
  | .ret u=>∃ v σ' H',Inv X pins σ' H' s'∧RelV v u∧D.rt v H'
def PE (X:Cx) (e:Expr) (t:TE):Prop :=
  ∀ (pins:List (Addr × Obj)) (s:Shared) (σ:St) (H:Hp) (Q:VK),Inv X pins σ H s→t σ H Q→wpAny (model X.prog X.w) X.A (eval e X.env) (EP X pins σ Q) X.xe s
def PT (X:Cx) (e:Expr) (t:TT):Prop :=
  ∀ (pins:List (Addr × Obj)) (s:Shared) (σ:St) (H:Hp) (Q:Bool→Hp→Prop),Inv X pins σ H s→t σ H Q→wpAny (model X.prog X.w) X.A (isTrue e X.env (eval e X.env)) (TP X pins σ Q) X.xe s
def PW (X:Cx) (e:Expr) (t:TT):Prop :=
  ∀ (whole:Sem Value) (pins:List (Addr × Obj)) (s:Shared) (σ:St) (H:Hp) (Q:Bool→Hp→Prop),Inv X pins σ H s→t σ H Q→wpAny (model X.prog X.w) X.A (isTrue e X.env whole) (TP X pins σ Q) X.xe s
theorem PW.pt {X:Cx} {e:Expr} {t:TT} (h:PW X e t):PT X e t:=h _
def PA (X:Cx) (es:List Expr) (t:TA):Prop :=
  ∀ (pos:Pos) (pins:List (Addr × Obj)) (s:Shared) (σ:St) (H:Hp) (Q:List V→Hp→Prop),Inv X pins σ H s→t σ H Q→wpAny (model X.prog X.w) X.A (spliced (backTo pos (starEach es X.env))) (AP X pins σ Q) X.xe s
def PS (X:Cx) (st:Stmt) (t:TS):Prop :=
  ∀ (pins:List (Addr × Obj)) (s:Shared) (σ:St) (H:Hp) (D:Ends),Inv X pins σ H s→t D σ H→wpAny (model X.prog X.w) X.A (exec st X.env) (SP X pins D) X.xe s
def PSs (X:Cx) (st:List Stmt) (t:TS):Prop :=
  ∀ (pins:List (Addr × Obj)) (s:Shared) (σ:St) (H:Hp) (D:Ends),Inv X pins σ H s→t D σ H→wpAny (model X.prog X.w) X.A (execs st X.env) (SP X pins D) X.xe s
theorem thn {α:Type} {t:Sem α} {Q Q':α→Shared→Prop} {M:Model} {A:Around} {E:Value→Shared→Prop} {s:Shared} (h:wpAny M A t Q E s) (hQ:∀ a s,Q a s→Q' a s):wpAny M A t Q' E s:=wpAny_mono h hQ fun _ _ x=>x
end L2
namespace L2
open PySem PySem.Spec PyProof.Rows
section
variable {X:Cx}
def tVar (i:Nat):TE:=fun σ H Q=>∃ v,σ[i]?=some (some v)∧Q v H
def tC (v:V):TE:=fun _ H Q=>Q v H
theorem pe_var {i:Nat} {x:Str} {pos:Pos} (hN:X.N[i]?=some x) (hv:Vis X.env.scope x) (hd:(x == ("__debug__" : Str))=false:=by decide) (hcd:(x == ("__classdict__" : Str))=false:=by decide):PE X (.Name x pos) (tVar i):=by
  intro pins s σ H Q I h
  obtain ⟨v,e,h⟩:=h
  obtain ⟨m,hn,hl⟩:=I.loc
  obtain ⟨u,r,l⟩:=hl i x v hN e hv
  have fin:EP X pins σ Q u s:=⟨v,H,I,r,h⟩
  rcases l with ⟨hk,hm⟩ | ⟨hk,c,hc,hcell⟩
  · exact wpAny_Name (wpAny_loadName_local I.ok.kind hk hn hm fin) hd
  · rcases hk with hk | hk
    · exact wpAny_Name (wpAny_loadName_cell I.ok.kind hk hc hcell fin) hd
    · exact wpAny_Name (wpAny_loadName_free I.ok.kind hk hc hcell fin hcd) hd
theorem pe_int {i j pos}:PE X (.Constant (.int i) j pos) (tC (.int i)):=fun _ _ _ H _ I h=>wpAny_Constant_int ⟨.int i,H,I.tok _,⟨_,rfl⟩,h⟩
theorem pe_bl {b j pos}:PE X (.Constant (.bool b) j pos) (tC (.bl b)):=fun _ _ _ H _ I h=>Constant_bool ⟨.bl b,H,I,rfl,h⟩
theorem pe_non {j pos}:PE X (.Constant .none j pos) (tC .non):=fun _ _ _ H _ I h=>Constant_none ⟨.non,H,I,rfl,h⟩
theorem pe_str {x j pos}:PE X (.Constant (.str x) j pos) (tC (.str x)):=fun _ _ _ H _ I h=>Calls.Constant_str ⟨.str x,H,I.tok _,⟨_,rfl⟩,h⟩
def Gl (X:Cx) (x:Str):Prop:=X.env.kindOf x=some .globalImplicit
theorem ld_glob {E:Value→Shared→Prop} {pins:List (Addr × Obj)} {s:Shared} {σ:St} {H:Hp} {x:Str} {u:Value} {pos:Pos} {Q:Value→Shared→Prop} (I:Inv X pins σ H s) (hg:Gl X x) (hm:X.mg x=some u) (h:Q u s)
    (hd:(x == ("__debug__" : Str))=false:=by decide):wpAny (model X.prog X.w) X.A (eval (.Name x pos) X.env) Q E s :=
  Calls.Name_function_global I.ok.kind hg (Calls.loadGlobal_global (by rw [I.ok.glob];exact I.mod.glob.keeps I.bk) hm h) hd
theorem ld_blt {E:Value→Shared→Prop} {pins:List (Addr × Obj)} {s:Shared} {σ:St} {H:Hp} {x:Str} {u:Value} {pos:Pos} {Q:Value→Shared→Prop} (I:Inv X pins σ H s) (hg:Gl X x) (hm:X.mg x=none) (hv:bootBuiltins x=some u) (h:Q u s)
    (hn:x ≠ "__name__" := by decide) (hd:(x == ("__debug__" : Str))=false:=by decide):wpAny (model X.prog X.w) X.A (eval (.Name x pos) X.env) Q E s:=by
  obtain ⟨mb,h1,h2⟩:=I.mod.blt
  exact Calls.Name_function_global I.ok.kind hg (Calls.loadGlobal_builtin (by rw [I.ok.glob];exact I.mod.glob.keeps I.bk) hm (by rw [I.ok.blt];exact h1.keeps I.bk) ((h2 x hn).trans hv) h) hd
theorem pe_glob {x:Str} {v:V} {u:Value} {pos:Pos} (hg:Gl X x) (hm:X.mg x=some u) (r:RelV v u) (hd:(x == ("__debug__" : Str))=false:=by decide):PE X (.Name x pos) (tC v) :=
  fun _ _ _ H _ I h=>ld_glob I hg hm ⟨v,H,I,r,h⟩ hd
theorem pe_bltn {x:Str} {v:V} {u:Value} {pos:Pos} (hg:Gl X x) (hm:X.mg x=none) (hv:bootBuiltins x=some u) (r:RelV v u) (hn:x ≠ "__name__" := by decide) (hd:(x == ("__debug__" : Str))=false:=by decide):PE X (.Name x pos) (tC v) :=
  fun _ _ _ H _ I h=>ld_blt I hg hm hv ⟨v,H,I,r,h⟩ hn hd
variable {a b:Expr} {ta tb:TE} {pos:Pos}
def PC (X:Cx) (op:CmpOp) (a b:Expr) (t:TE):Prop :=
  ∀ (pins:List (Addr × Obj)) (s:Shared) (σ:St) (H:Hp) (Q:VK),Inv X pins σ H s→t σ H Q →
    wpAny (model X.prog X.w) X.A (eval a X.env) (fun v s₁=>wpAny (model X.prog X.w) X.A (eval b X.env) (fun u s₂=>wpAny (model X.prog X.w) X.A (compareOp op v u) (EP X pins σ Q) X.xe s₂) X.xe s₁) X.xe s
theorem nobehind (b:Expr) {op:CmpOp} (h:op≠.In) (h2:op≠.NotIn):behindInMarks op b=false:=by
  have e1:(op == CmpOp.In)=false:=by cases op <;> first | rfl | exact absurd rfl h
  have e2:(op == CmpOp.NotIn)=false:=by cases op <;> first | rfl | exact absurd rfl h2
  cases b <;> simp [behindInMarks,e1,e2]
def tIsN (ta:TE):TE:=fun σ H Q=>ta σ H fun x H1=>Q (.bl (decide (x=.non))) H1
theorem RelV.none_iff {x:V} {v:Value} (r:RelV x v):(v == Value.none)=decide (x=.non):=by
  cases x with
  | non=>cases r;rfl
  | bl _=>cases r;rfl
  | int _=>obtain ⟨t,rfl⟩:=r;rfl
  | str _=>obtain ⟨t,rfl⟩:=r;rfl
  | byt _=>obtain ⟨t,rfl⟩:=r;rfl
  | flt _=>obtain ⟨t,rfl⟩:=r;rfl
  | ref _=>cases r;rfl
  | ty _=>cases r;rfl
theorem pc_isN {j pos'} (ha:PE X a ta):PC X .Is a (.Constant .none j pos') (tIsN ta):=by
  intro pins s σ H Q I h
  refine thn (ha pins s σ H _ I h) fun v s1 ⟨x,H1,I1,r1,q1⟩=>?_
  exact Constant_none (is_none_gen ⟨.bl _,H1,I1,by rw [r1.none_iff];rfl,q1⟩)
def tB (t:TE):TT:=fun σ H Q=>t σ H fun x H1=>∃ c,x=.bl c∧Q c H1
theorem pt_cmp {op:CmpOp} {t:TE} (h:PC X op a b t) (h1:behindInMarks op b=false:=by first | exact nobehind _ (by decide) (by decide) | rfl):PT X (.Compare a [op] [b] pos) (tB t):=by
  intro pins s σ H Q I hw
  refine wpAny_isTrue_Compare1 (thn (h pins s σ H _ I hw) fun v s1 h1=>thn h1 fun u s2 h2=>thn h2 fun c s3 ⟨x,H1,I1,r1,q1⟩=>?_) h1
  obtain ⟨d,rfl,q⟩:=q1
  cases r1
  exact wpAny_truthy_bool ⟨H1,I1,q⟩
theorem pt_val {e:Expr} {t:TE} (h:PE X e t) (he:∀ whole,isTrue e X.env whole=(do let v ← whole;standAt e.pos;holding [v] (truthy v)):=by intro _;rfl):PT X e (tB t):=by
  intro pins s σ H Q I hw
  refine isTrue_plain (thn (h pins s σ H _ I hw) fun v s1 ⟨x,H1,I1,r1,q1⟩=>?_) (he _)
  obtain ⟨d,rfl,q⟩:=q1
  cases r1
  exact wpAny_truthy_bool ⟨H1,I1,q⟩
variable {tA tB':TT} {rest:List Expr}
def tOr (t u:TT):TT:=fun σ H Q=>t σ H fun c H1=>if c=true then Q true H1 else u σ H1 Q
def tNot (t:TT):TT:=fun σ H Q=>t σ H fun c H1=>Q (!c) H1
theorem pw_or1 (ha:PT X a tA):PW X (.BoolOp .Or [a] pos) tA:=by
  intro wh pins s σ H Q I h
  refine isTrue_or (thn (ha pins s σ H Q I h) fun c s1 e=>?_)
  cases c with
  | false=>exact isTrue_or_nil e
  | true=>exact e
theorem pw_or (ha:PT X a tA) (hb:PW X (.BoolOp .Or (b :: rest) pos) tB'):PW X (.BoolOp .Or (a :: b :: rest) pos) (tOr tA tB'):=by
  intro wh pins s σ H Q I h
  refine isTrue_or (thn (ha pins s σ H _ I h) fun c s1 ⟨H1,I1,q1⟩=>?_)
  cases c with
  | true=>exact ⟨H1,I1,q1⟩
  | false=>exact hb wh pins s1 σ H1 Q I1 q1
theorem pt_not (ha:PT X a tA):PT X (.UnaryOp .Not a pos) (tNot tA):=by
  intro pins s σ H Q I h
  exact isTrue_not (ha pins s σ H (fun c H1=>Q (!c) H1) I h)
def tAndV (ta tb:TE):TE:=fun σ H Q=>ta σ H fun x H1=>∃ c,x=.bl c∧if c=true then tb σ H1 Q else Q (.bl false) H1
def tNotV (ta:TE):TE:=fun σ H Q=>ta σ H fun x H1=>∃ c,x=.bl c∧Q (.bl (!c)) H1
theorem pe_one {op} {t:TE} (h:PE X a t):PE X (.BoolOp op [a] pos) t:=fun pins s σ H Q I hw=>BoolOp_one (h pins s σ H Q I hw)
theorem pe_and (ha:PE X a ta) (hb:PE X (.BoolOp .And (b :: rest) pos) tb):PE X (.BoolOp .And (a :: b :: rest) pos) (tAndV ta tb):=by
  intro pins s σ H Q I h
  refine BoolOp_and (thn (ha pins s σ H _ I h) fun v s1 ⟨x,H1,I1,r1,q1⟩=>?_)
  obtain ⟨c,rfl,q1⟩:=q1
  cases r1
  refine wpAny_truthy_bool ?_
  cases c with
  | true=>exact hb pins s1 σ H1 Q I1 q1
  | false=>exact ⟨.bl false,H1,I1,rfl,q1⟩
theorem pe_not (ha:PE X a ta):PE X (.UnaryOp .Not a pos) (tNotV ta):=by
  intro pins s σ H Q I h
  refine UnaryOp_ (thn (ha pins s σ H _ I h) fun v s1 ⟨x,H1,I1,r1,q1⟩=>?_)
  obtain ⟨c,rfl,q1⟩:=q1
  cases r1
  exact not_of (wpAny_truthy_bool ⟨.bl (!c),H1,I1,rfl,q1⟩)
def tIf (t:TT) (ta tb:TE):TE:=fun σ H Q=>t σ H fun c H1=>if c=true then ta σ H1 Q else tb σ H1 Q
theorem pe_ifExp {c:Expr} (hc:PT X c tA) (ha:PE X a ta) (hb:PE X b tb):PE X (.IfExp c a b pos) (tIf tA ta tb):=by
  intro pins s σ H Q I h
  refine wpAny_IfExp (thn (hc pins s σ H _ I h) fun d s1 ⟨H1,I1,q1⟩=>?_)
  cases d with
  | true=>exact ha pins s1 σ H1 Q I1 q1
  | false=>exact hb pins s1 σ H1 Q I1 q1
end
end L2
namespace L2
open PySem PySem.Spec PyProof.Rows
def SqL (K:PySem.W.Frag) (H:Hp) (a:Addr) (xs:List V):Prop :=
  Rd H a (.lst xs) ∨
    ∃ (o:Obj) (its:Array Value) (n:Nat),K.lookup a=some o∧o.cls=.type "list" ∧ o.dict=none∧o.data=.seq its n∧its.size≤sizeLine∧Vals xs its.toList
def SqT (K:PySem.W.Frag) (H:Hp) (a:Addr) (xs:List V):Prop :=
  Rd H a (.tup xs) ∨
    ∃ (o:Obj) (its:Array Value) (n:Nat),K.lookup a=some o∧o.cls=.type "tuple" ∧ o.data=.seq its n∧its.size≤sizeLine∧Vals xs its.toList
def absV:Value→Option V
  | .none=>some .non
  | .bool b=>some (.bl b)
  | .int i _=>some (.int i)
  | .str x _=>some (.str x)
  | .bytes b _=>some (.byt b)
  | .float b _=>some (.flt b)
  | .ref a=>some (.ref a)
  | .type n=>some (.ty n)
  | _=>none
theorem RelV.abs {x:V} {u:Value} (r:RelV x u):absV u=some x:=by
  cases x with
  | non=>cases r;rfl
  | bl _=>cases r;rfl
  | int _=>obtain ⟨t,rfl⟩:=r;rfl
  | str _=>obtain ⟨t,rfl⟩:=r;rfl
  | byt _=>obtain ⟨t,rfl⟩:=r;rfl
  | flt _=>obtain ⟨t,rfl⟩:=r;rfl
  | ref _=>cases r;rfl
  | ty _=>cases r;rfl
theorem RelV.inj {x y:V} {u:Value} (r:RelV x u) (q:RelV y u):x=y:=Option.some.inj (r.abs.symm.trans q.abs)
theorem Vals.inj:∀ {xs ys:List V} {us:List Value},Vals xs us→Vals ys us→xs=ys
  | _,_,_,.nil,.nil=>rfl
  | _,_,_,.cons r t,.cons r' t'=>by rw [r.inj r',Vals.inj t t']
section
variable {X:Cx} {pins:List (Addr × Obj)} {σ:St} {H:Hp} {s:Shared} {a:Addr} {xs ys:List V}
theorem SqL.of {K:PySem.W.Frag} (h:H a=some (.lst xs)):SqL K H a xs:=.inl (.inl h)
theorem SqT.of {K:PySem.W.Frag} (h:H a=some (.tup xs)):SqT K H a xs:=.inl (.inl h)
theorem Inv.list (I:Inv X pins σ H s) (h:SqL X.K H a xs):∃ its:List Value,Vals xs its∧PlainL s.heap a its.toArray∧xs.length≤sizeLine:=by
  rcases h with h | ⟨o,its,n,hk,hc,hd,hs,hz,r⟩
  · obtain ⟨z,its,n,r,e⟩:=h.ok I.hok
    exact ⟨its,r,⟨_,n,e,rfl,rfl,rfl⟩,z⟩
  · refine ⟨its.toList,r,⟨o,n,I.kIn a o hk,hc,hd,by simpa using hs⟩,?_⟩
    have e:=r.length
    simp only [Array.length_toList] at e
    omega
theorem Inv.tuple (I:Inv X pins σ H s) (h:SqT X.K H a xs):∃ its:List Value,Vals xs its∧IsTup s.heap a its.toArray∧xs.length≤sizeLine:=by
  rcases h with h | ⟨o,its,n,hk,hc,hs,hz,r⟩
  · obtain ⟨z,its,r,p⟩:=h.ok I.hok
    exact ⟨its,r,p,z⟩
  · refine ⟨its.toList,r,⟨o,I.kIn a o hk,hc,n,by simpa using hs⟩,?_⟩
    have e:=r.length
    simp only [Array.length_toList] at e
    omega
theorem Inv.list_inj (I:Inv X pins σ H s) (h:SqL X.K H a xs) (h':SqL X.K H a ys):xs=ys:=by
  obtain ⟨its,r,⟨o,n,e,_,_,d⟩,_⟩:=I.list h
  obtain ⟨its',r',⟨o',n',e',_,_,d'⟩,_⟩:=I.list h'
  rw [e] at e';cases e'
  rw [d] at d'
  injection d' with d1 _
  have:its=its':=by simpa using congrArg Array.toList d1
  subst this
  exact r.inj r'
theorem Inv.tuple_inj (I:Inv X pins σ H s) (h:SqT X.K H a xs) (h':SqT X.K H a ys):xs=ys:=by
  obtain ⟨its,r,⟨o,e,_,n,d⟩,_⟩:=I.tuple h
  obtain ⟨its',r',⟨o',e',_,n',d'⟩,_⟩:=I.tuple h'
  rw [e] at e';cases e'
  rw [d] at d'
  injection d' with d1 _
  have:its=its':=by simpa using congrArg Array.toList d1
  subst this
  exact r.inj r'
end
abbrev Cx.wish (X:Cx) (E:Value→Shared→Prop):Cx:={ X with xe:=E }
abbrev Cx.nox (X:Cx):Cx:=X.wish fun _ _=>False
theorem Cx.Ok.wish {X:Cx} (ok:X.Ok) (E:Value→Shared→Prop):(X.wish E).Ok :=
  ⟨ok.mod,ok.kind,ok.glob,ok.blt,ok.above,ok.inj,ok.has,ok.cab,ok.hd,ok.frames,ok.stk,ok.exf,ok.bs,ok.bsz,ok.noex,ok.exfs,ok.funs,ok.frf⟩
theorem Cx.Ok.unwish {X:Cx} {E:Value→Shared→Prop} (ok:(X.wish E).Ok):X.Ok :=
  ⟨ok.mod,ok.kind,ok.glob,ok.blt,ok.above,ok.inj,ok.has,ok.cab,ok.hd,ok.frames,ok.stk,ok.exf,ok.bs,ok.bsz,ok.noex,ok.exfs,ok.funs,ok.frf⟩
section
variable {X:Cx} {pins:List (Addr × Obj)} {σ:St} {H:Hp} {s:Shared} {E:Value→Shared→Prop}
theorem Inv.wish (I:Inv X pins σ H s) (E:Value→Shared→Prop):Inv (X.wish E) pins σ H s:=⟨I.ok.wish E,I.os,I.bare,I.base,I.loc,I.cell,I.free,I.freeC,I.pin,I.hok,I.len⟩
theorem Inv.unwish (I:Inv (X.wish E) pins σ H s):Inv X pins σ H s:=⟨I.ok.unwish,I.os,I.bare,I.base,I.loc,I.cell,I.free,I.freeC,I.pin,I.hok,I.len⟩
theorem SP.unwish {D:Ends} {f:Flow} {s':Shared} (h:SP (X.wish E) pins D f s'):SP X pins D f s':=by
  cases f with
  | next=>obtain ⟨σ',H',I,q⟩:=h;exact ⟨σ',H',I.unwish,q⟩
  | brk=>obtain ⟨σ',H',I,q⟩:=h;exact ⟨σ',H',I.unwish,q⟩
  | cont=>obtain ⟨σ',H',I,q⟩:=h;exact ⟨σ',H',I.unwish,q⟩
  | ret u=>obtain ⟨v,σ',H',I,r,q⟩:=h;exact ⟨v,σ',H',I.unwish,r,q⟩
theorem PE.nox {e:Expr} {t:TE} (h:PE X.nox e t):PE X e t:=fun pins s σ H Q I hw =>
  wpAny_mono (h pins s σ H Q (I.wish _) hw) (fun _ _ ⟨v,H',I',r,q⟩=>⟨v,H',I'.unwish,r,q⟩) fun _ _ z=>False.elim z
theorem PSs.nox {st:List Stmt} {t:TS} (h:PSs X.nox st t):PSs X st t:=fun pins s σ H D I hw =>
  wpAny_mono (h pins s σ H D (I.wish _) hw) (fun _ _ q=>q.unwish) fun _ _ z=>False.elim z
end
section
variable {X:Cx} {st:Stmt} {rest:List Stmt} {t u:TS} {e:Expr} {te:TE} {pos:Pos}
def tNext:TS:=fun D σ H=>D.nx σ H
def tSeq (t u:TS):TS:=fun D σ H=>t { D with nx:=u D } σ H
theorem pss_nil:PSs X [] tNext:=fun _ _ σ H _ I h=>wpAny_execs_nil ⟨σ,H,I,h⟩
theorem pss_cons (h1:PS X st t) (h2:PSs X rest u):PSs X (st :: rest) (tSeq t u):=by
  intro pins s σ H D I h
  refine wpAny_execs_cons (thn (h1 pins s σ H { D with nx:=u D } I h) fun f s1 q=>?_)
  cases f with
  | next =>
    obtain ⟨σ',H',I',q⟩:=q
    exact h2 pins s1 σ' H' D I' q
  | ret v=>exact q
  | brk=>exact q
  | cont=>exact q
theorem pss_one (h1:PS X st t):PSs X [st] t:=by
  intro pins s σ H D I h
  refine wpAny_execs_cons (thn (h1 pins s σ H D I h) fun f s1 q=>?_)
  cases f with
  | next=>exact wpAny_execs_nil q
  | ret v=>exact q
  | brk=>exact q
  | cont=>exact q
theorem Inv.quiet {pins:List (Addr × Obj)} {σ:St} {H:Hp} {s:Shared} (I:Inv X pins σ H s):interactive X.env=false:=by simp [interactive,I.ok.kind]
def tDrop (te:TE):TS:=fun D σ H=>te σ H fun _ H1=>D.nx σ H1
theorem ps_expr (he:PE X e te) (hs:swapsWith e none pos.line X.env=pure false:=by rfl):PS X (.Expr e pos) (tDrop te):=by
  intro pins s σ H D I h
  exact wpAny_Expr_any (thn (he pins s σ H _ I h) fun v s1 ⟨x,H1,I1,r1,q1⟩=>⟨σ,H1,I1,q1⟩) I.quiet hs
def tRet (te:TE):TS:=fun D σ H=>te σ H D.rt
theorem ps_ret (he:PE X e te):PS X (.Return (some e) pos) (tRet te):=by
  intro pins s σ H D I h
  exact wpAny_Return_some (thn (he pins s σ H _ I h) fun v s1 ⟨x,H1,I1,r1,q1⟩=>⟨x,σ,H1,I1,r1,q1⟩)
def tIfS (c:TT) (t u:TS):TS:=fun D σ H=>c σ H fun b H1=>if b=true then t D σ H1 else u D σ H1
theorem ps_if {c:Expr} {a b:List Stmt} {tc:TT} (hc:PT X c tc) (ha:PSs X a t) (hb:PSs X b u):PS X (.If c a b pos) (tIfS tc t u):=by
  intro pins s σ H D I h
  refine wpAny_If (thn (hc pins s σ H _ I h) fun d s1 ⟨H1,I1,q1⟩=>?_)
  cases d with
  | true=>exact ha pins s1 σ H1 D I1 q1
  | false=>exact hb pins s1 σ H1 D I1 q1
def tNever:TS:=fun _ _ _=>False
theorem ps_never:PS X st tNever:=fun _ _ _ _ _ _ h=>h.elim
end
abbrev TG:=V→St→Hp→(St→Hp→Prop)→Prop
abbrev TGs:=List V→St→Hp→(St→Hp→Prop)→Prop
def PG (X:Cx) (target:Expr) (t:TG):Prop :=
  ∀ (pins:List (Addr × Obj)) (s:Shared) (σ:St) (H:Hp) (v:V) (u:Value) (Q:St→Hp→Prop),Inv X pins σ H s→RelV v u→t v σ H Q →
    wpAny (model X.prog X.w) X.A (assign target X.env u) (fun _ s'=>∃ σ' H',Inv X pins σ' H' s'∧Q σ' H') X.xe s
def PGs (X:Cx) (ts:List Expr) (t:TGs):Prop :=
  ∀ (pins:List (Addr × Obj)) (s:Shared) (σ:St) (H:Hp) (vs:List V) (us:List Value) (Q:St→Hp→Prop),Inv X pins σ H s→Vals vs us→t vs σ H Q →
    wpAny (model X.prog X.w) X.A (assignInOrder ((assignEach ts X.env).map (·.2)) us) (fun _ s'=>∃ σ' H',Inv X pins σ' H' s'∧Q σ' H') X.xe s
abbrev TSet:=V→V→V→Hp→(Hp→Prop)→Prop
def PSet (X:Cx) (t:TSet):Prop :=
  ∀ (pins:List (Addr × Obj)) (s:Shared) (σ:St) (H:Hp) (o i v:V) (ov iv u:Value) (Q:Hp→Prop),Inv X pins σ H s→RelV o ov→RelV i iv→RelV v u→t o i v H Q →
    wpAny (model X.prog X.w) X.A (setItem ov iv u) (fun _ s'=>∃ H',Inv X pins σ H' s'∧Q H') X.xe s
section
variable {X:Cx} {pos:Pos}
def gName (i:Nat):TG:=fun v σ H Q=>Q (σ.set i (some v)) H
theorem pg_name {i:Nat} {x:Str} (hN:X.N.Nodup) (hi:X.N[i]?=some x) (hx:Loc X.env.scope x) (hf:X.fn x=true∨X.env.scope.names.lookup x=some .local:=by first | exact .inl rfl | exact .inr rfl | assumption):PG X (.Name x pos) (gName i):=by
  intro pins s σ H v u Q I r h
  exact wpAny_assign_Name (store_ok I hN hi hx r (fun s' I'=>⟨_,H,I',h⟩) hf)
def gNil:TGs:=fun vs σ H Q=>vs=[]∧Q σ H
def gCons (t:TG) (u:TGs):TGs:=fun vs σ H Q=>∃ v r,vs=v :: r∧t v σ H fun σ' H'=>u r σ' H' Q
theorem pgs_nil:PGs X [] gNil:=by
  intro pins s σ H vs us Q I r h
  obtain ⟨e,h⟩:=h
  subst e
  cases r
  exact assignInOrder_nil ⟨σ,H,I,h⟩
theorem pgs_cons {e:Expr} {es:List Expr} {t:TG} {u:TGs} (h1:PG X e t) (h2:PGs X es u)
    (hs:(assignEach (e :: es) X.env).map (·.2)=assign e X.env :: (assignEach es X.env).map (·.2):=by rfl):PGs X (e :: es) (gCons t u):=by
  intro pins s σ H vs us Q I r h
  obtain ⟨v,vr,e1,h⟩:=h
  subst e1
  cases r with
  | cons r rr =>
    rw [hs]
    refine assignInOrder_cons (thn (h1 pins s σ H _ _ _ I r h) fun _ s1 ⟨σ1,H1,I1,q1⟩=>?_)
    exact h2 pins s1 σ1 H1 _ _ Q I1 rr q1
def gTup (K:PySem.W.Frag) (n:Nat) (t:TGs):TG:=fun v σ H Q=>∃ a xs,v=.ref a∧SqT K H a xs∧xs.length=n∧t xs σ H Q
theorem pg_tup {es:List Expr} {k:Nat} {t:TGs} {n:Nat} (hc:X.calm=true) (h:PGs X es t)
    (hn:(assignEach es X.env).length=n:=by rfl) (hst:(assignEach es X.env).findIdx? (·.1)=none:=by rfl):PG X (.Tuple es k pos) (gTup X.K n t):=by
  intro pins s σ H v u Q I r hw
  obtain ⟨a,xs,e1,hq,hl,hw⟩:=hw
  subst e1
  cases r
  obtain ⟨its,rv,ht,hz⟩:=I.tuple hq
  refine assign_Tuple_tuple (I.ok.hd hc) ht (by simp [hn,← hl,rv.length]) hst fun h' hx=>?_
  have I1:Inv X pins σ H { s with heap:=h' }:=I.kept (t':=s.toks) fun b o e=>hx b o (Nat.ne_of_lt (Heap.lt_size e)) e
  exact h pins _ σ H xs _ Q I1 (by simpa using rv) hw
def gSub (to ti:TE) (t:TSet):TG:=fun v σ H Q=>to σ H fun o H1=>ti σ H1 fun i H2=>t o i v H2 fun H3=>Q σ H3
theorem pg_sub {o i:Expr} {to ti:TE} {t:TSet} (ho:PE X o to) (hi:PE X i ti) (hs:PSet X t)
    (ha:∀ v,assign (.Subscript o i pos) X.env v=(do
      let ov ← holding [v] (eval o X.env)
      let iv ← holding [v,ov] (eval i X.env)
      standAt pos
      holding [v,ov,iv] (setItem ov iv v)
      release [v,ov,iv] []):=by intro _;rfl):PG X (.Subscript o i pos) (gSub to ti t):=by
  intro pins s σ H v u Q I r h
  rw [ha]
  refine wpAny_bind (wpAny_holding (thn (ho pins s σ H _ I h) fun ov s1 ⟨x,H1,I1,r1,q1⟩=>?_))
  refine wpAny_bind (wpAny_holding (thn (hi pins s1 σ H1 _ I1 q1) fun iv s2 ⟨y,H2,I2,r2,q2⟩=>?_))
  refine wpAny_bind (wpAny_standAt (wpAny_bind (wpAny_holding (thn (hs pins s2 σ H2 x y v ov iv u _ I2 r1 r2 r q2) fun _ s3 ⟨H3,I3,q3⟩=>?_))))
  exact wpAny_release ⟨σ,H3,I3,q3⟩
def tAsg (te:TE) (g:TG):TS:=fun D σ H=>te σ H fun x H1=>g x σ H1 D.nx
theorem ps_asg {tg e:Expr} {te:TE} {g:TG} (he:PE X e te) (hg:PG X tg g) (hs:swapsWithSole [tg] e pos.line X.env=pure false:=by rfl) (hw:swappedStores [tg] e X.env=pure none:=by rfl)
    (h1:(assignEach [tg] X.env).map (·.2)=[assign tg X.env]:=by rfl):PS X (.Assign [tg] e pos) (tAsg te g):=by
  intro pins s σ H D I h
  refine wpAny_Assign_stores (thn (he pins s σ H _ I h) fun v s1 ⟨x,H1,I1,r1,q1⟩=>?_) hs hw
  rw [h1]
  exact thn (hg pins s1 σ H1 x v _ I1 r1 q1) fun _ s2 q=>q
theorem ps_set {i:Nat} {x:Str} {e:Expr} {te:TE} {pos':Pos} (hN:X.N.Nodup) (hi:X.N[i]?=some x) (hx:Loc X.env.scope x) (he:PE X e te) (hs:swapsWith e (some (.Name x pos')) pos.line X.env=pure false:=by rfl) (hf:X.fn x=true∨X.env.scope.names.lookup x=some .local:=by first | exact .inl rfl | exact .inr rfl | assumption) :
    PS X (.Assign [.Name x pos'] e pos) (tAsg te (gName i)):=by
  intro pins s σ H D I h
  refine wpAny_Assign_Name (thn (he pins s σ H _ I h) fun v s1 ⟨y,H1,I1,r1,q1⟩=>?_) hs
  exact store_ok I1 hN hi hx r1 (fun s2 I2=>⟨_,H1,I2,q1⟩) hf
end
section
variable {X:Cx} {pos:Pos}
def tWhile (c:TT) (tb:TS):TS:=fun D σ H=>∃ W:Nat→St→Hp→Prop,(∃ m,W m σ H)∧∀ m σ H,W m σ H →
  c σ H fun b H1=>if b=true then ∃ N:St→Hp→Prop,(∀ σ' H',N σ' H'→∃ m',m' < m∧W m' σ' H')∧tb { D with nx:=N,ct:=N,bk:=D.nx } σ H1 else D.nx σ H1
theorem ps_while {c:Expr} {body:List Stmt} {tc:TT} {tb:TS} (hp:PassesOwn (model X.prog X.w) X.A X.env X.xe) (hc:PT X c tc) (hb:PSs X body tb):PS X (.While c body [] pos) (tWhile tc tb):=by
  intro pins s σ H D I h
  obtain ⟨W,⟨m0,w0⟩,turn⟩:=h
  refine wpAny_While (codeAny_whileLoop (fun n s'=>∃ σ' H',Inv X pins σ' H' s'∧W n σ' H') ?_ m0 ⟨σ,H,I,w0⟩)
  rintro n s1 ⟨σ1,H1,I1,w1⟩
  refine wpAny_passesOwn hp (thn (hc pins s1 σ1 H1 _ I1 (turn n σ1 H1 w1)) fun b s2 ⟨H2,I2,q2⟩=>?_)
  cases b with
  | true =>
    obtain ⟨N,hN,q2⟩:=q2
    rw [if_pos rfl]
    refine wpAny_passesOwn hp (thn (hb pins s2 σ1 H2 _ I2 q2) fun f s3 q3=>?_)
    cases f with
    | next =>
      obtain ⟨σ3,H3,I3,n3⟩:=q3
      obtain ⟨m',hm,w3⟩:=hN σ3 H3 n3
      exact ⟨m',hm,σ3,H3,I3,w3⟩
    | cont =>
      obtain ⟨σ3,H3,I3,n3⟩:=q3
      obtain ⟨m',hm,w3⟩:=hN σ3 H3 n3
      exact ⟨m',hm,σ3,H3,I3,w3⟩
    | brk=>exact q3
    | ret v=>exact q3
  | false =>
    rw [if_neg Bool.false_ne_true]
    exact wpAny_execs_nil ⟨σ1,H2,I2,q2⟩
end
structure It where
  go:Nat→Hp→Prop
  yld:Nat→Hp→V→Hp→Prop
  stop:Nat→Hp→Prop
def FpOk (X:Cx) (pins:List (Addr × Obj)) (H:Hp) (b:Addr):Prop :=
  H b=none∧b≠X.env.locals∧b ∉ X.fs∧(b ∈ X.ex∨X.s₀.heap.objs.size≤b)∧(∀ x c,X.env.cells.lookup x=some c→c≠b)∧∀ p ∈ X.pn ++ pins,p.1≠b
theorem Inv.fpOk {X:Cx} {pins:List (Addr × Obj)} {σ:St} {H H':Hp} {s:Shared} {b:Addr} (I:Inv X pins σ H s) (hb:s.heap.objs.size≤b) (hn:H' b=none):FpOk X pins H' b:=by
  refine ⟨hn,Nat.ne_of_gt (Nat.lt_of_lt_of_le I.lt hb),I.nofs hb,.inr (Nat.le_trans I.sz hb),fun x c e z=>?_,fun p hp z=>?_⟩
  · obtain ⟨v,q⟩:=I.cell x c e
    exact absurd (Nat.lt_of_lt_of_le q.lt (by rw [z];exact hb)) (Nat.lt_irrefl _)
  · exact absurd (Nat.lt_of_lt_of_le (Heap.lt_size (I.pin p hp).1) (by rw [z];exact hb)) (Nat.lt_irrefl _)
structure Turn (P:Program) (w:World) (K:PySem.W.Frag) (tg:Expr) (J:It) (fp:List Addr) (it:Addr) (tn:Nat→Heap→Prop):Prop where
  mem:it ∈ fp
  obj:∀ i h,tn i h→∀ b ∈ fp,∃ o,h.get? b=some o∧∀ v,o.data≠.cell v
  keep:∀ i h h',tn i h→(∀ b ∈ fp,∀ o,h.get? b=some o→h'.get? b=some o)→tn i h'
  item:∀ (X:Cx),X.prog=P→X.w=w→X.K=K→X.calm=true→∀ (i:Nat) (pins:List (Addr × Obj)) (s:Shared) (σ:St) (H:Hp) (E:Value→Shared→Prop),Inv X pins σ H s→(∀ b ∈ fp,FpOk X pins H b)→tn i s.heap→J.go i H →
    wpAny (model P w) X.A (pyNext (.ref it)) (fun r s1=>∃ u,r=some u ∧
      wpAny (model P w) X.A (letOwnedTupleGo tg (.ref it) u) (fun _ s2=>∃ x H',Inv X pins σ H' s2∧RelV x u∧J.yld i H x H'∧tn (i + 1) s2.heap∧∀ b ∈ fp,H' b=none) E s1) E s
  done:∀ (X:Cx),X.prog=P→X.w=w→X.K=K→X.calm=true→∀ (i:Nat) (pins:List (Addr × Obj)) (s:Shared) (σ:St) (H:Hp) (E:Value→Shared→Prop),Inv X pins σ H s→(∀ b ∈ fp,FpOk X pins H b)→tn i s.heap→J.stop i H →
    wpAny (model P w) X.A (pyNext (.ref it)) (fun r s1=>r=none∧Inv X pins σ H s1) E s
  self:∀ (A:Around) (i:Nat) (s:Shared) (Q:Value→Shared→Prop) (E:Value→Shared→Prop),tn i s.heap→Q (.ref it) s→wpAny (model P w) A (pyIter (.ref it)) Q E s
abbrev TI:=St→Hp→(It→Hp→Prop)→Prop
def PIE (X:Cx) (pins:List (Addr × Obj)) (σ:St) (tg:Expr) (R:It→Hp→Prop) (itv:Value) (s2:Shared):Prop :=
  ∃ (it:Addr) (fp:List Addr) (tn:Nat→Heap→Prop) (J:It) (H':Hp),itv=.ref it∧Inv X pins σ H' s2∧Turn X.prog X.w X.K tg J fp it tn∧tn 0 s2.heap∧(∀ b ∈ fp,FpOk X pins H' b)∧R J H'
def PI (X:Cx) (tg iter:Expr) (wi:TI):Prop :=
  ∀ (pins:List (Addr × Obj)) (s:Shared) (σ:St) (H:Hp) (R:It→Hp→Prop),Inv X pins σ H s→wi σ H R →
    wpAny (model X.prog X.w) X.A (eval iter X.env) (fun v s1=>wpAny (model X.prog X.w) X.A (pyIter v) (PIE X pins σ tg R) X.xe s1) X.xe s
theorem go_of {M:Model} {A:Around} {E:Value→Shared→Prop} {s:Shared} {tg:Expr} {it:Addr} {u:Value} {o:Obj} {n:String} {vs:Array Value} {Q:Unit→Shared→Prop} (ho:s.heap.get? it=some o) (hc:o.cls=.type n) (hd:o.data=.fields vs)
    (hn:["enumerate", "zip", "dict_itemiterator", "dict_reverseitemiterator", "odict_iterator", "itertools.zip_longest", "itertools.pairwise"].contains n=false) (hQ:Q () s):wpAny M A (letOwnedTupleGo tg (.ref it) u) Q E s:=by
  unfold letOwnedTupleGo
  cases tg <;> first
    | exact wpAny_pure hQ
    | (cases u <;> first
        | exact wpAny_pure hQ
        | (refine wpAny_bind (wpAny_load ho ?_)
           rw [hc,hd]
           show wpAny M A (if (["enumerate", "zip", "dict_itemiterator", "dict_reverseitemiterator", "odict_iterator", "itertools.zip_longest", "itertools.pairwise"].contains n && vs[0]? == some (rawInt _))=true then _ else _) Q E s
           rw [if_neg (by intro h;rw [hn,Bool.false_and] at h;cases h)]
           exact wpAny_pure hQ))
def Itl (K:PySem.W.Frag) (a:Addr):It :=
  ⟨fun i H=>∃ xs x,SqL K H a xs∧xs[i]?=some x,fun i H x H'=>H'=H∧∀ xs,SqL K H a xs→xs[i]?=some x,fun i H=>∃ xs,SqL K H a xs∧xs.length≤i⟩
def Itt (K:PySem.W.Frag) (a:Addr):It :=
  ⟨fun i H=>∃ xs x,SqT K H a xs∧xs[i]?=some x,fun i H x H'=>H'=H∧∀ xs,SqT K H a xs→xs[i]?=some x,fun i H=>∃ xs,SqT K H a xs∧xs.length≤i⟩
def Itr (lo:Int) (n:Nat):It:=⟨fun i _=>i < n,fun i H x H'=>H'=H∧x=.int (lo + i),fun i _=>n≤i⟩
theorem turn_list {P:Program} {w:World} {K:PySem.W.Frag} {tg:Expr} (a it:Addr):Turn P w K tg (Itl K a) [it] it (fun i h=>h.IsListIter it a i) where
  mem:=by simp
  obj:=fun i h st b hb=>by
    have e:b=it:=by simpa using hb
    subst e
    obtain ⟨o,e,c,d⟩:=st
    exact ⟨o,e,fun v z=>by rw [d] at z;cases z⟩
  keep:=fun i h h' st k=>st.at fun o e=>k it (by simp) o e
  item:=by
    intro X hP hw hK hc i pins s σ H E I hf st hg
    subst hP hw hK
    obtain ⟨xs,x,hq,hx⟩:=hg
    obtain ⟨its,rv,p,hz⟩:=I.list hq
    obtain ⟨u,hu,ru⟩:=rv.get hx
    obtain ⟨f0,f1,f2,f3,f4,f5⟩:=hf it (by simp)
    refine wpAny_pyNext_list_item st p.isList (x:=u) (by simpa using hu) fun h' st' sb=>?_
    have I1:Inv X pins σ H { s with heap:=h' }:=I.turned (t':=s.toks) (fun b o hb e=>(sb.2 b hb).trans e) f0 f1 f3 f4 f5
    obtain ⟨o,e,c,d⟩:=id st'
    exact ⟨u,rfl,go_of (s:={ s with heap:=h' }) e c d (by decide) ⟨x,H,I1,ru,⟨rfl,fun ys hy=>by rw [I.list_inj hy hq];exact hx⟩,st',fun b hb=>(hf b hb).1⟩⟩
  done:=by
    intro X hP hw hK hc i pins s σ H E I hf st hg
    subst hP hw hK
    obtain ⟨xs,hq,hx⟩:=hg
    obtain ⟨its,rv,p,hz⟩:=I.list hq
    obtain ⟨f0,f1,f2,f3,f4,f5⟩:=hf it (by simp)
    have hl:=rv.length
    exact wpAny_pyNext_list_end (I.ok.hd hc) st p.isList (by simp;omega) fun h' eb=>⟨rfl,I.turned (t':=s.toks) (fun b o hb e=>eb b o hb e) f0 f1 f3 f4 f5⟩
  self:=fun _ _ _ _ _ st h=>wpAny_pyIter_listiter st h
theorem turn_tuple {P:Program} {w:World} {K:PySem.W.Frag} {tg:Expr} (a it:Addr):Turn P w K tg (Itt K a) [it] it (fun i h=>h.IsTupleIter it a i) where
  mem:=by simp
  obj:=fun i h st b hb=>by
    have e:b=it:=by simpa using hb
    subst e
    obtain ⟨o,e,c,d⟩:=st
    exact ⟨o,e,fun v z=>by rw [d] at z;cases z⟩
  keep:=fun i h h' st k=>st.at fun o e=>k it (by simp) o e
  item:=by
    intro X hP hw hK hc i pins s σ H E I hf st hg
    subst hP hw hK
    obtain ⟨xs,x,hq,hx⟩:=hg
    obtain ⟨its,rv,p,hz⟩:=I.tuple hq
    obtain ⟨u,hu,ru⟩:=rv.get hx
    obtain ⟨f0,f1,f2,f3,f4,f5⟩:=hf it (by simp)
    refine wpAny_pyNext_tuple_item st (show s.heap.IsTuple a its.toArray from p) (x:=u) (by simpa using hu) fun h' st' sb=>?_
    have I1:Inv X pins σ H { s with heap:=h' }:=I.turned (t':=s.toks) (fun b o hb e=>(sb.2 b hb).trans e) f0 f1 f3 f4 f5
    obtain ⟨o,e,c,d⟩:=id st'
    exact ⟨u,rfl,go_of (s:={ s with heap:=h' }) e c d (by decide) ⟨x,H,I1,ru,⟨rfl,fun ys hy=>by rw [I.tuple_inj hy hq];exact hx⟩,st',fun b hb=>(hf b hb).1⟩⟩
  done:=by
    intro X hP hw hK hc i pins s σ H E I hf st hg
    subst hP hw hK
    obtain ⟨xs,hq,hx⟩:=hg
    obtain ⟨its,rv,p,hz⟩:=I.tuple hq
    obtain ⟨f0,f1,f2,f3,f4,f5⟩:=hf it (by simp)
    have hl:=rv.length
    exact wpAny_pyNext_tuple_end (I.ok.hd hc) st (show s.heap.IsTuple a its.toArray from p) (by simp;omega) fun h' eb=>⟨rfl,I.turned (t':=s.toks) (fun b o hb e=>eb b o hb e) f0 f1 f3 f4 f5⟩
  self:=fun _ _ _ _ _ st h=>wpAny_pyIter_tupleiter st h
theorem turn_range {P:Program} {w:World} {K:PySem.W.Frag} {tg:Expr} (it:Addr) (lo:Int) (n:Nat):Turn P w K tg (Itr lo n) [it] it (fun i h=>IsRangeIter h it (lo + (i:Nat) * 1) ((n:Int) - (i:Nat)) 1) where
  mem:=by simp
  obj:=fun i h st b hb=>by
    have e:b=it:=by simpa using hb
    subst e
    exact ⟨_,st,fun v z=>by
      have z':Data.fields _=Data.cell v:=z
      cases z'⟩
  keep:=fun i h h' st k=>k it (by simp) _ st
  item:=by
    intro X hP hw hK hc i pins s σ H E I hf st hg
    subst hP hw hK
    obtain ⟨f0,f1,f2,f3,f4,f5⟩:=hf it (by simp)
    have W:=Walks.range (prog:=X.prog) (w:=X.w) (I.ok.hd hc) it lo 1 n
    refine W.item i s _ _ hg st fun v h' tk hv st' kk=>?_
    obtain ⟨t,rfl⟩:=hv
    have I1:Inv X pins σ H { s with heap:=h',toks:=tk }:=I.turned (fun b o hb e=>kk b o (by simpa using hb) e) f0 f1 f3 f4 f5
    refine ⟨_,rfl,go_of (s:={ s with heap:=h',toks:=tk }) (n:="range_iterator") st' rfl rfl (by decide) ⟨.int (lo + i),H,I1,⟨t,?_⟩,⟨rfl,rfl⟩,st',fun b hb=>(hf b hb).1⟩⟩
    rw [Int.mul_one]
  done:=by
    intro X hP hw hK hc i pins s σ H E I hf st hg
    subst hP hw hK
    obtain ⟨f0,f1,f2,f3,f4,f5⟩:=hf it (by simp)
    exact wpAny_pyNext_range_end (I.ok.hd hc) st (by have:n≤i:=hg;omega) fun h' eb=>⟨rfl,I.turned (t':=s.toks) (fun b o hb e=>eb b o hb e) f0 f1 f3 f4 f5⟩
  self:=fun _ _ _ _ _ st h=>wpAny_pyIter_rangeiter st h
end L2
namespace L2
open PySem PySem.Spec PyProof.Rows
section
variable {X:Cx} {tg:Expr}
def iList (K:PySem.W.Frag) (tl:TE):TI:=fun σ H R=>tl σ H fun x H1=>∃ a,x=.ref a∧(∃ xs,SqL K H1 a xs)∧R (Itl K a) H1
def iTup (K:PySem.W.Frag) (tl:TE):TI:=fun σ H R=>tl σ H fun x H1=>∃ a,x=.ref a∧(∃ xs,SqT K H1 a xs)∧R (Itt K a) H1
theorem pi_list {l:Expr} {tl:TE} (hl:PE X l tl):PI X tg l (iList X.K tl):=by
  intro pins s σ H R I h
  refine thn (hl pins s σ H _ I h) fun v s1 ⟨x,H1,I1,r1,q1⟩=>?_
  obtain ⟨a,e,⟨xs,hq⟩,q⟩:=q1
  subst e
  cases r1
  obtain ⟨its,rv,p,hz⟩:=I1.list hq
  refine wpAny_pyIter_list p.isList ?_
  refine ⟨s1.heap.objs.size,[s1.heap.objs.size],_,_,H1,rfl,I1.kept (t':=s1.toks) fun b o e=>Heap.get?_push_of_some _ e,turn_list a _,⟨_,Heap.get?_push_size _ rfl,rfl,rfl⟩,fun b hb=>?_,q⟩
  have e:b=s1.heap.objs.size:=by simpa using hb
  subst e
  exact I1.fpOk (Nat.le_refl _) (I1.hok.fresh (Nat.le_refl _))
theorem pi_tup {l:Expr} {tl:TE} (hl:PE X l tl):PI X tg l (iTup X.K tl):=by
  intro pins s σ H R I h
  refine thn (hl pins s σ H _ I h) fun v s1 ⟨x,H1,I1,r1,q1⟩=>?_
  obtain ⟨a,e,⟨xs,hq⟩,q⟩:=q1
  subst e
  cases r1
  obtain ⟨its,rv,p,hz⟩:=I1.tuple hq
  refine wpAny_pyIter_tuple (show s1.heap.IsTuple a its.toArray from p) ?_
  refine ⟨s1.heap.objs.size,[s1.heap.objs.size],_,_,H1,rfl,I1.kept (t':=s1.toks) fun b o e=>Heap.get?_push_of_some _ e,turn_tuple a _,⟨_,Heap.get?_push_size _ rfl,rfl,rfl⟩,fun b hb=>?_,q⟩
  have e:b=s1.heap.objs.size:=by simpa using hb
  subst e
  exact I1.fpOk (Nat.le_refl _) (I1.hok.fresh (Nat.le_refl _))
theorem range_it {pins:List (Addr × Obj)} {σ:St} {H:Hp} {s:Shared} {R:It→Hp→Prop} {E:Value→Shared→Prop} {lo hi:Int} {t u v:Tok} {tk:Nat} (I:Inv X pins σ H s) (h1:-(2 ^ 62)≤lo) (h2:lo < 2 ^ 62) (h3:-(2 ^ 62)≤hi) (h4:hi < 2 ^ 62)
    (q:R (Itr lo (hi - lo).toNat) H):wpAny (model X.prog X.w) X.A (pyIter (.ref s.heap.objs.size)) (PIE X pins σ tg R) E { s with heap:=s.heap.push { cls:=.type "range", data:=.fields #[.int lo t,.int hi u,.int 1 v] },toks:=tk }:=by
  refine wpAny_pyIter_range (IsRange.new ..) (small_one h1 h2 h3 h4) ?_
  have I1:Inv X pins σ H { s with heap:=s.heap.push { cls:=.type "range", data:=.fields #[.int lo t,.int hi u,.int 1 v] },toks:=tk }:=I.kept fun b o e=>Heap.get?_push_of_some _ e
  refine ⟨(s.heap.push { cls:=.type "range", data:=.fields #[.int lo t,.int hi u,.int 1 v] }).objs.size,[(s.heap.push { cls:=.type "range", data:=.fields #[.int lo t,.int hi u,.int 1 v] }).objs.size],_,_,H,rfl,
    I1.kept (t':=tk) fun b o e=>Heap.get?_push_of_some _ e,turn_range _ lo (hi - lo).toNat,?_,fun b hb=>?_,q⟩
  · have e1:lo + ((0:Nat):Int) * 1=lo:=by simp
    have e2:(((hi - lo).toNat:Nat):Int) - ((0:Nat):Int)=Builtin.Range.rangeSize lo hi 1:=by rw [rangeSize_one];split <;> omega
    show IsRangeIter _ _ (lo + ((0:Nat):Int) * 1) ((((hi - lo).toNat:Nat):Int) - ((0:Nat):Int)) 1
    rw [e1,e2]
    exact Heap.get?_push_size _ rfl
  · have e:b=(s.heap.push { cls:=.type "range", data:=.fields #[.int lo t,.int hi u,.int 1 v] }).objs.size:=by simpa using hb
    subst e
    exact I1.fpOk (Nat.le_refl _) (I1.hok.fresh (Nat.le_refl _))
def iRng1 (ta:TA):TI:=fun σ H R=>ta σ H fun vs H1=>∃ j:Int,vs=[.int j]∧-(2 ^ 62)≤j∧j < 2 ^ 62∧R (Itr 0 j.toNat) H1
theorem pi_range1 {a:Expr} {ta:TA} {p pos:Pos} (hg:Gl X "range") (hm:X.mg "range" = none) (ha:PA X [a] ta) (hs:starEach [a] X.env=[(false,eval a X.env)]:=by rfl):PI X tg (.Call (.Name "range" p) [a] [] pos) (iRng1 ta):=by
  intro pins s σ H R I h
  refine Call_ (ld_blt I hg hm boot_range (PyProof.Rows.callWith_type1 (thn (ha pos pins s σ H _ I h) fun us s1 ⟨vs,H1,I1,r1,q1⟩=>?_) hs rfl))
  obtain ⟨j,e,q1,q2,q⟩:=q1
  subst e
  cases r1 with
  | cons r rr =>
    cases rr
    obtain ⟨t,rfl⟩:=r
    exact call_range_1 (range_it I1 (by omega) (by omega) q1 q2 (by simpa using q))
def tFor (wi:TI) (g:TG) (tb:TS):TS:=fun D σ H=>wi σ H fun J H1=>∃ W:Nat→Nat→St→Hp→Prop,(∃ m,W 0 m σ H1)∧∀ i m σ H,W i m σ H →
  (J.stop i H∧D.nx σ H)∨(J.go i H∧∃ N:St→Hp→Prop,(∀ σ' H',N σ' H'→∃ m',m' < m∧W (i + 1) m' σ' H')∧∀ x H',J.yld i H x H'→g x σ H' fun σ2 H2=>tb { D with nx:=N,ct:=N,bk:=D.nx } σ2 H2)
def pinsAt (fp:List Addr) (h:Heap):List (Addr × Obj):=fp.filterMap fun b=>(h.get? b).map fun o=>(b,o)
theorem mem_pinsAt {fp:List Addr} {h:Heap} {b:Addr} {o:Obj} (hb:b ∈ fp) (e:h.get? b=some o):(b,o) ∈ pinsAt fp h:=List.mem_filterMap.mpr ⟨b,hb,by rw [e];rfl⟩
theorem of_pinsAt {fp:List Addr} {h:Heap} {p:Addr × Obj} (hp:p ∈ pinsAt fp h):p.1 ∈ fp∧h.get? p.1=some p.2:=by
  obtain ⟨b,hb,e⟩:=List.mem_filterMap.mp hp
  cases q:h.get? b with
  | none=>rw [q] at e;cases e
  | some o =>
    rw [q] at e
    have e':(b,o)=p:=Option.some.inj e
    subst e'
    exact ⟨hb,q⟩
theorem Inv.pinned {pins:List (Addr × Obj)} {σ:St} {H:Hp} {s:Shared} {fp:List Addr} (I:Inv X pins σ H s) (hf:∀ b ∈ fp,FpOk X pins H b) (ho:∀ b ∈ fp,∃ o,s.heap.get? b=some o∧∀ v,o.data≠.cell v):Inv X (pins ++ pinsAt fp s.heap) σ H s :=
  I.pins_of fun p hp=>(List.mem_append.mp hp).elim (fun z=>I.pin p (List.mem_append_right _ z)) fun z=>by
    obtain ⟨hb,e⟩:=of_pinsAt z
    obtain ⟨f0,f1,f2,_⟩:=hf p.1 hb
    obtain ⟨o,e',d⟩:=ho p.1 hb
    rw [e] at e';cases e'
    exact ⟨e,f0,f1,f2,d⟩
theorem Inv.unpinned {pins pl:List (Addr × Obj)} {σ:St} {H:Hp} {s:Shared} (I:Inv X (pins ++ pl) σ H s):Inv X pins σ H s:=I.pins_of fun p hp=>I.pin p (List.mem_append_right _ (List.mem_append_left _ hp))
theorem ps_for {iter:Expr} {body:List Stmt} {wi:TI} {g:TG} {tb:TS} {pos:Pos} (hp:PassesOwn (model X.prog X.w) X.A X.env X.xe) (hc:X.calm=true) (hi:PI X tg iter wi) (hg:PG X tg g) (hb:PSs X body tb)
    (hs:∀ x,foldedSetIterable iter X.env x=pure x:=by intro _;rfl):PS X (.For tg iter body [] pos) (tFor wi g tb):=by
  intro pins s σ H D I h
  refine wpAny_For (thn (hi pins s σ H _ I h) fun v s1 h1=>thn h1 fun itv s2 h2=>?_) hs
  obtain ⟨it,fp,tn,J,H2,e,I2,T,st2,f2,W,⟨m0,w0⟩,turn⟩:=h2
  subst e
  have stat:∀ {H':Hp},(∀ b ∈ fp,H' b=none)→∀ b ∈ fp,FpOk X pins H' b:=fun hn b hb=>⟨hn b hb,(f2 b hb).2⟩
  refine codeAny_forLoop_any (fun n s'=>∃ i σ' H',Inv X pins σ' H' s'∧tn i s'.heap∧(∀ b ∈ fp,H' b=none)∧W i n σ' H') ?_ m0 ⟨0,σ,H2,I2,st2,fun b hb=>(f2 b hb).1,w0⟩
  rintro n s3 ⟨i,σ3,H3,I3,st3,fr3,w3⟩
  rcases turn i n σ3 H3 w3 with ⟨stop,qn⟩ | ⟨go,N,hN,step⟩
  · refine wpAny_passesOwn hp (thn (T.done X rfl rfl rfl hc i pins s3 σ3 H3 X.xe I3 (stat fr3) st3 stop) fun r s4 ⟨hr,I4⟩=>?_)
    subst hr
    exact wpAny_execs_nil ⟨σ3,H3,I4,qn⟩
  · refine wpAny_passesOwn hp (thn (T.item X rfl rfl rfl hc i pins s3 σ3 H3 X.xe I3 (stat fr3) st3 go) fun r s4 ⟨u,hr,h4⟩=>?_)
    subst hr
    refine wpAny_passesOwn hp (thn h4 fun _ s5 ⟨x,H5,I5,r5,y5,st5,fr5⟩=>?_)
    have I5':=I5.pinned (stat fr5) (T.obj _ _ st5)
    refine wpAny_passesOwn hp (thn (hg _ s5 σ3 H5 x u _ I5' r5 (step x H5 y5)) fun _ s6 ⟨σ6,H6,I6,q6⟩=>?_)
    refine wpAny_passesOwn hp (thn (hb _ s6 σ6 H6 _ I6 q6) fun f s7 q7=>?_)
    have again:∀ {σ7:St} {H7:Hp},Inv X (pins ++ pinsAt fp s5.heap) σ7 H7 s7→N σ7 H7→∃ m,m < n∧∃ i σ' H',Inv X pins σ' H' s7∧tn i s7.heap∧(∀ b ∈ fp,H' b=none)∧W i m σ' H':=fun {σ7 H7} I7 n7=>by
      obtain ⟨m',hm,w7⟩:=hN σ7 H7 n7
      refine ⟨m',hm,i + 1,σ7,H7,I7.unpinned,T.keep _ _ _ st5 fun b hb o e=>(I7.pin (b,o) (List.mem_append_right _ (List.mem_append_right _ (mem_pinsAt hb e)))).1,fun b hb=>?_,w7⟩
      obtain ⟨o,e,d⟩:=T.obj _ _ st5 b hb
      exact (I7.pin (b,o) (List.mem_append_right _ (List.mem_append_right _ (mem_pinsAt hb e)))).2.1
    cases f with
    | next=>obtain ⟨σ7,H7,I7,n7⟩:=q7;exact again I7 n7
    | cont=>obtain ⟨σ7,H7,I7,n7⟩:=q7;exact again I7 n7
    | brk=>obtain ⟨σ7,H7,I7,q7⟩:=q7;exact ⟨σ7,H7,I7.unpinned,q7⟩
    | ret v=>obtain ⟨x7,σ7,H7,I7,r7,q7⟩:=q7;exact ⟨x7,σ7,H7,I7.unpinned,r7,q7⟩
end
theorem for_list {K:PySem.W.Frag} {a:Addr} {xs:List V} {g:TG} {tb:TS} {D:Ends} {σ:St} {H:Hp} (Pv:Nat→St→Hp→Prop) (h0:Pv 0 σ H) (hl:∀ i σ H,i≤xs.length→Pv i σ H→SqL K H a xs)
    (hs:∀ i x σ H,xs[i]?=some x→Pv i σ H→g x σ H fun σ2 H2=>tb { D with nx:=Pv (i + 1),ct:=Pv (i + 1),bk:=D.nx } σ2 H2) (hd:∀ σ H,Pv xs.length σ H→D.nx σ H) :
    ∃ W:Nat→Nat→St→Hp→Prop,(∃ m,W 0 m σ H)∧∀ i m σ H,W i m σ H →
      ((Itl K a).stop i H∧D.nx σ H)∨((Itl K a).go i H∧∃ N:St→Hp→Prop,(∀ σ' H',N σ' H'→∃ m',m' < m∧W (i + 1) m' σ' H')∧∀ x H',(Itl K a).yld i H x H'→g x σ H' fun σ2 H2=>tb { D with nx:=N,ct:=N,bk:=D.nx } σ2 H2):=by
  refine ⟨fun i m σ H=>m=xs.length - i∧i≤xs.length∧Pv i σ H,⟨xs.length,by simp,Nat.zero_le _,h0⟩,?_⟩
  rintro i m σ H ⟨rfl,hi,p⟩
  have q:=hl i σ H hi p
  by_cases hlt:i < xs.length
  · refine .inr ⟨⟨xs,xs[i],q,by simp [hlt]⟩,Pv (i + 1),fun σ' H' p'=>⟨xs.length - (i + 1),by omega,rfl,hlt,p'⟩,fun x H' y=>?_⟩
    obtain ⟨e,y⟩:=y
    subst e
    exact hs i x σ _ (y xs q) p
  · have e:i=xs.length:=by omega
    subst e
    exact .inl ⟨⟨xs,q,Nat.le_refl _⟩,hd σ H p⟩
theorem for_tup {K:PySem.W.Frag} {a:Addr} {xs:List V} {g:TG} {tb:TS} {D:Ends} {σ:St} {H:Hp} (Pv:Nat→St→Hp→Prop) (h0:Pv 0 σ H) (hl:∀ i σ H,i≤xs.length→Pv i σ H→SqT K H a xs)
    (hs:∀ i x σ H,xs[i]?=some x→Pv i σ H→g x σ H fun σ2 H2=>tb { D with nx:=Pv (i + 1),ct:=Pv (i + 1),bk:=D.nx } σ2 H2) (hd:∀ σ H,Pv xs.length σ H→D.nx σ H) :
    ∃ W:Nat→Nat→St→Hp→Prop,(∃ m,W 0 m σ H)∧∀ i m σ H,W i m σ H →
      ((Itt K a).stop i H∧D.nx σ H)∨((Itt K a).go i H∧∃ N:St→Hp→Prop,(∀ σ' H',N σ' H'→∃ m',m' < m∧W (i + 1) m' σ' H')∧∀ x H',(Itt K a).yld i H x H'→g x σ H' fun σ2 H2=>tb { D with nx:=N,ct:=N,bk:=D.nx } σ2 H2):=by
  refine ⟨fun i m σ H=>m=xs.length - i∧i≤xs.length∧Pv i σ H,⟨xs.length,by simp,Nat.zero_le _,h0⟩,?_⟩
  rintro i m σ H ⟨rfl,hi,p⟩
  have q:=hl i σ H hi p
  by_cases hlt:i < xs.length
  · refine .inr ⟨⟨xs,xs[i],q,by simp [hlt]⟩,Pv (i + 1),fun σ' H' p'=>⟨xs.length - (i + 1),by omega,rfl,hlt,p'⟩,fun x H' y=>?_⟩
    obtain ⟨e,y⟩:=y
    subst e
    exact hs i x σ _ (y xs q) p
  · have e:i=xs.length:=by omega
    subst e
    exact .inl ⟨⟨xs,q,Nat.le_refl _⟩,hd σ H p⟩
theorem for_range {lo:Int} {n:Nat} {g:TG} {tb:TS} {D:Ends} {σ:St} {H:Hp} (Pv:Nat→St→Hp→Prop) (h0:Pv 0 σ H)
    (hs:∀ i σ H,i < n→Pv i σ H→g (.int (lo + i)) σ H fun σ2 H2=>tb { D with nx:=Pv (i + 1),ct:=Pv (i + 1),bk:=D.nx } σ2 H2) (hd:∀ σ H,Pv n σ H→D.nx σ H) :
    ∃ W:Nat→Nat→St→Hp→Prop,(∃ m,W 0 m σ H)∧∀ i m σ H,W i m σ H →
      ((Itr lo n).stop i H∧D.nx σ H)∨((Itr lo n).go i H∧∃ N:St→Hp→Prop,(∀ σ' H',N σ' H'→∃ m',m' < m∧W (i + 1) m' σ' H')∧∀ x H',(Itr lo n).yld i H x H'→g x σ H' fun σ2 H2=>tb { D with nx:=N,ct:=N,bk:=D.nx } σ2 H2):=by
  refine ⟨fun i m σ H=>m=n - i∧i≤n∧Pv i σ H,⟨n,by simp,Nat.zero_le _,h0⟩,?_⟩
  rintro i m σ H ⟨rfl,hi,p⟩
  by_cases hlt:i < n
  · refine .inr ⟨hlt,Pv (i + 1),fun σ' H' p'=>⟨n - (i + 1),by omega,rfl,hlt,p'⟩,fun x H' y=>?_⟩
    obtain ⟨e,y⟩:=y
    subst e y
    exact hs i σ _ hlt p
  · have e:i=n:=by omega
    subst e
    exact .inl ⟨Nat.le_refl _,hd σ H p⟩
end L2
namespace L2
open PySem PySem.Spec PyProof.Rows
abbrev R2:=V→V→Hp→VK→Prop
def OpR (X:Cx) (f:Value→Value→Sem Value) (r:R2):Prop :=
  ∀ (pins:List (Addr × Obj)) (s:Shared) (σ:St) (H:Hp) (x y:V) (v u:Value) (Q:VK),Inv X pins σ H s→RelV x v→RelV y u→r x y H Q →
    wpAny (model X.prog X.w) X.A (f v u) (EP X pins σ Q) X.xe s
def CallR (X:Cx) (f:Value) (r:List V→Hp→VK→Prop):Prop :=
  ∀ (pins:List (Addr × Obj)) (s:Shared) (σ:St) (H:Hp) (xs:List V) (us:List Value) (Q:VK),Inv X pins σ H s→Vals xs us→r xs H Q →
    wpAny (model X.prog X.w) X.A (call f us) (EP X pins σ Q) X.xe s
def tOp (r:R2) (ta tb:TE):TE:=fun σ H Q=>ta σ H fun x H1=>tb σ H1 fun y H2=>r x y H2 Q
def rI (C:Int→Int→Prop) (g:Int→Int→V):R2:=fun x y H Q=>∃ i j,x=.int i∧y=.int j∧C i j∧Q (g i j) H
def rI0 (g:Int→Int→V):R2:=fun x y H Q=>∃ i j,x=.int i∧y=.int j∧Q (g i j) H
section
variable {X:Cx} {a b c:Expr} {ta tb tc:TE} {pos:Pos}
theorem binT (ha:PE X a ta) (hb:PE X b tb) {pins:List (Addr × Obj)} {s:Shared} {σ:St} {H:Hp} {R:V→V→Hp→Prop} (I:Inv X pins σ H s)
    (h:ta σ H fun x H1=>tb σ H1 fun y H2=>R x y H2) {Q:Value→Shared→Prop} {f:Value→Value→Sem Value}
    (hf:∀ v u s2 x y H2,Inv X pins σ H2 s2→RelV x v→RelV y u→R x y H2→wpAny (model X.prog X.w) X.A (f v u) Q X.xe s2) :
    wpAny (model X.prog X.w) X.A (eval a X.env) (fun v s₁=>wpAny (model X.prog X.w) X.A (eval b X.env) (fun u s₂=>wpAny (model X.prog X.w) X.A (f v u) Q X.xe s₂) X.xe s₁) X.xe s:=by
  refine thn (ha pins s σ H _ I h) fun v s1 ⟨x,H1,I1,r1,q1⟩=>?_
  refine thn (hb pins s1 σ H1 _ I1 q1) fun u s2 ⟨y,H2,I2,r2,q2⟩=>?_
  exact hf v u s2 x y H2 I2 r1 r2 q2
theorem pe_op {op:Operator} {r:R2} (ho:OpR X (binaryOp op) r) (ha:PE X a ta) (hb:PE X b tb):PE X (.BinOp a op b pos) (tOp r ta tb):=by
  intro pins s σ H Q I h
  exact wpAny_BinOp (binT ha hb I h fun v u s2 x y H2 I2 rx ry q=>ho pins s2 σ H2 x y v u Q I2 rx ry q)
theorem opI {f:Value→Value→Sem Value} {C:Int→Int→Prop} {g:Int→Int→Int}
    (rule:∀ (i j:Int) (t u:Tok) (s:Shared) (Q:Value→Shared→Prop) (E:Value→Shared→Prop),C i j→Q (.int (g i j) s.toks) { s with toks:=s.toks + 1 }→wpAny (model X.prog X.w) X.A (f (.int i t) (.int j u)) Q E s) :
    OpR X f (rI C fun i j=>.int (g i j)):=by
  intro pins s σ H x y v u Q I rx ry h
  obtain ⟨i,j,rfl,rfl,hc,q⟩:=h
  obtain ⟨t,rfl⟩:=rx
  obtain ⟨t',rfl⟩:=ry
  exact rule i j t t' s _ _ hc ⟨.int (g i j),H,I.tok _,⟨_,rfl⟩,q⟩
theorem opI0 {f:Value→Value→Sem Value} {g:Int→Int→Int}
    (rule:∀ (i j:Int) (t u:Tok) (s:Shared) (Q:Value→Shared→Prop) (E:Value→Shared→Prop),Q (.int (g i j) s.toks) { s with toks:=s.toks + 1 }→wpAny (model X.prog X.w) X.A (f (.int i t) (.int j u)) Q E s) :
    OpR X f (rI0 fun i j=>.int (g i j)):=by
  intro pins s σ H x y v u Q I rx ry h
  obtain ⟨i,j,rfl,rfl,q⟩:=h
  obtain ⟨t,rfl⟩:=rx
  obtain ⟨t',rfl⟩:=ry
  exact rule i j t t' s _ _ ⟨.int (g i j),H,I.tok _,⟨_,rfl⟩,q⟩
theorem opB0 {f:Value→Value→Sem Value} {g:Int→Int→Bool}
    (rule:∀ (i j:Int) (t u:Tok) (s:Shared) (Q:Value→Shared→Prop) (E:Value→Shared→Prop),Q (.bool (g i j)) s→wpAny (model X.prog X.w) X.A (f (.int i t) (.int j u)) Q E s) :
    OpR X f (rI0 fun i j=>.bl (g i j)):=by
  intro pins s σ H x y v u Q I rx ry h
  obtain ⟨i,j,rfl,rfl,q⟩:=h
  obtain ⟨t,rfl⟩:=rx
  obtain ⟨t',rfl⟩:=ry
  exact rule i j t t' s _ _ ⟨.bl (g i j),H,I,rfl,q⟩
def CDiv (i j:Int):Prop:=0 < j∧j < 1073741824
def CPow (i j:Int):Prop:=0≤j∧j≤1000000∧i.natAbs < 2 ^ 64
def CMul (i j:Int):Prop:=(-(2 ^ 64) < i∧i < 2 ^ 64)∨(-(2 ^ 64) < j∧j < 2 ^ 64)
theorem CMul.ok {i j:Int} (h:CMul i j):IntMulOk i j:=by
  rcases h with ⟨h1,h2⟩ | ⟨h1,h2⟩
  · exact .of_left (intBits_le_64 h1 h2)
  · exact .of_right (intBits_le_64 h1 h2)
theorem op_add:OpR X (binaryOp .Add) (rI0 fun i j=>.int (i + j)):=opI0 fun _ _ _ _ _ _ _ q=>add_int q
theorem op_sub:OpR X (binaryOp .Sub) (rI0 fun i j=>.int (i - j)):=opI0 fun _ _ _ _ _ _ _ q=>sub_int q
theorem op_mul:OpR X (binaryOp .Mult) (rI CMul fun i j=>.int (i * j)):=opI fun _ _ _ _ _ _ _ hc q=>mul_int q hc.ok
theorem op_fdiv:OpR X (binaryOp .FloorDiv) (rI CDiv fun i j=>.int (i / j)):=opI fun i j _ _ _ _ _ hc q=>by
  have h1:(0:Int) < j:=hc.1
  have h2:j < 1073741824:=hc.2
  exact floordiv_int (by omega) (by rw [Int.fdiv_eq_ediv_of_nonneg i (by omega)];exact q) (.inl (PyProof.noPylong_small (by omega)))
theorem op_mod:OpR X (binaryOp .Mod) (rI (fun _ j=>0 < j) fun i j=>.int (i % j)):=opI fun i j _ _ _ _ _ hc q=>by
  have h1:(0:Int) < j:=hc
  exact mod_int' (by omega) (by rw [Int.fmod_eq_emod_of_nonneg i (by omega)];exact q)
theorem op_pow:OpR X (binaryOp .Pow) (rI CPow fun i j=>.int (i ^ j.toNat)):=opI fun _ _ _ _ _ _ _ hc q=>pow_int_small hc.1 hc.2.1 hc.2.2 q
end
def scal:V→V→Bool
  | .non,.non=>true | .non,.int _=>true | .int _,.non=>true | .non,.bl _=>true | .bl _,.non=>true | .non,.str _=>true | .str _,.non=>true
  | .int _,.int _=>true | .bl _,.bl _=>true | .str _,.str _=>true | .byt _,.byt _=>true
  | .int _,.str _=>true | .str _,.int _=>true | .bl _,.str _=>true | .str _,.bl _=>true
  | _,_=>false
def rEq:R2:=fun x y H Q=>scal x y=true∧Q (.bl (decide (x=y))) H
def rNe:R2:=fun x y H Q=>scal x y=true∧Q (.bl (!decide (x=y))) H
theorem dec_int {i j:Int}:decide (V.int i=V.int j)=(i == j):=by
  rw [Bool.eq_iff_iff]
  simp
theorem dec_bl {i j:Bool}:decide (V.bl i=V.bl j)=(i == j):=by
  rw [Bool.eq_iff_iff]
  simp
theorem dec_str {i j:Str}:decide (V.str i=V.str j)=(i == j):=by
  rw [Bool.eq_iff_iff]
  simp
theorem dec_byt {i j:Array UInt8}:decide (V.byt i=V.byt j)=(i.toList == j.toList):=by
  rw [Bool.eq_iff_iff]
  cases i
  cases j
  simp
section
variable {X:Cx} {a b c:Expr} {ta tb tc:TE} {pos:Pos}
theorem fin_bl {pins:List (Addr × Obj)} {σ:St} {H:Hp} {s:Shared} {Q:VK} {k k':Bool} (I:Inv X pins σ H s) (q:Q (.bl k) H) (e:k=k'):EP X pins σ Q (.bool k') s:=by
  subst e
  exact ⟨.bl k,H,I,rfl,q⟩
theorem op_eq:OpR X (compareOp .Eq) rEq:=by
  intro pins s σ H x y v u Q I rx ry h
  obtain ⟨hs,q⟩:=h
  cases x with
  | non =>
    cases rx
    cases y with
    | non=>cases ry;exact PySem.EqNone.eq_none_none (fin_bl I q (by simp))
    | bl j=>cases ry;exact PySem.EqNone.eq_none_bool (fin_bl I q (by simp))
    | int j=>obtain ⟨t',rfl⟩:=ry;exact PySem.EqNone.eq_none_int (fin_bl I q (by simp))
    | str j=>obtain ⟨t',rfl⟩:=ry;exact PySem.EqNone.eq_none_str (fin_bl I q (by simp))
    | _=>exact absurd (show false=true from hs) Bool.false_ne_true
  | bl i =>
    cases rx
    cases y with
    | non=>cases ry;exact PySem.EqNone.eq_bool_none (fin_bl I q (by simp))
    | bl j=>cases ry;exact eq_bool (fin_bl I q dec_bl)
    | str j=>obtain ⟨t',rfl⟩:=ry;exact PySem.EqMixed.eq_bool_str (fin_bl I q (by simp))
    | _=>exact absurd (show false=true from hs) Bool.false_ne_true
  | int i =>
    obtain ⟨t,rfl⟩:=rx
    cases y with
    | non=>cases ry;exact PySem.EqNone.eq_int_none (fin_bl I q (by simp))
    | int j=>obtain ⟨t',rfl⟩:=ry;exact eq_int (fin_bl I q dec_int)
    | str j=>obtain ⟨t',rfl⟩:=ry;exact PySem.EqMixed.eq_int_str (fin_bl I q (by simp))
    | _=>exact absurd (show false=true from hs) Bool.false_ne_true
  | str i =>
    obtain ⟨t,rfl⟩:=rx
    cases y with
    | non=>cases ry;exact PySem.EqNone.eq_str_none (fin_bl I q (by simp))
    | bl j=>cases ry;exact PySem.EqMixed.eq_str_bool (fin_bl I q (by simp))
    | int j=>obtain ⟨t',rfl⟩:=ry;exact PySem.EqMixed.eq_str_int (fin_bl I q (by simp))
    | str j=>obtain ⟨t',rfl⟩:=ry;exact eq_str (fin_bl I q dec_str)
    | _=>exact absurd (show false=true from hs) Bool.false_ne_true
  | byt i =>
    obtain ⟨t,rfl⟩:=rx
    cases y with
    | byt j=>obtain ⟨t',rfl⟩:=ry;exact PySem.W.eq_bytes (fin_bl I q dec_byt)
    | _=>exact absurd (show false=true from hs) Bool.false_ne_true
  | _=>cases y <;> exact absurd (show false=true from hs) Bool.false_ne_true
theorem op_ne:OpR X (compareOp .NotEq) rNe:=by
  intro pins s σ H x y v u Q I rx ry h
  obtain ⟨hs,q⟩:=h
  cases x with
  | non =>
    cases rx
    cases y with
    | non=>cases ry;exact PySem.EqNone.ne_none_none (fin_bl I q (by simp))
    | bl j=>cases ry;exact PySem.EqNone.ne_none_bool (fin_bl I q (by simp))
    | int j=>obtain ⟨t',rfl⟩:=ry;exact PySem.EqNone.ne_none_int (fin_bl I q (by simp))
    | str j=>obtain ⟨t',rfl⟩:=ry;exact PySem.EqNone.ne_none_str (fin_bl I q (by simp))
    | _=>exact absurd (show false=true from hs) Bool.false_ne_true
  | bl i =>
    cases rx
    cases y with
    | non=>cases ry;exact PySem.EqNone.ne_bool_none (fin_bl I q (by simp))
    | bl j=>cases ry;exact ne_bool (fin_bl I q (congrArg not dec_bl))
    | str j=>obtain ⟨t',rfl⟩:=ry;exact PySem.EqMixed.ne_bool_str (fin_bl I q (by simp))
    | _=>exact absurd (show false=true from hs) Bool.false_ne_true
  | int i =>
    obtain ⟨t,rfl⟩:=rx
    cases y with
    | non=>cases ry;exact PySem.EqNone.ne_int_none (fin_bl I q (by simp))
    | int j=>obtain ⟨t',rfl⟩:=ry;exact ne_int (fin_bl I q (congrArg not dec_int))
    | str j=>obtain ⟨t',rfl⟩:=ry;exact PySem.EqMixed.ne_int_str (fin_bl I q (by simp))
    | _=>exact absurd (show false=true from hs) Bool.false_ne_true
  | str i =>
    obtain ⟨t,rfl⟩:=rx
    cases y with
    | non=>cases ry;exact PySem.EqNone.ne_str_none (fin_bl I q (by simp))
    | bl j=>cases ry;exact PySem.EqMixed.ne_str_bool (fin_bl I q (by simp))
    | int j=>obtain ⟨t',rfl⟩:=ry;exact PySem.EqMixed.ne_str_int (fin_bl I q (by simp))
    | str j=>obtain ⟨t',rfl⟩:=ry;exact ne_str (fin_bl I q (congrArg not dec_str))
    | _=>exact absurd (show false=true from hs) Bool.false_ne_true
  | byt i =>
    obtain ⟨t,rfl⟩:=rx
    cases y with
    | byt j=>obtain ⟨t',rfl⟩:=ry;exact PySem.W.ne_bytes (fin_bl I q (congrArg not dec_byt))
    | _=>exact absurd (show false=true from hs) Bool.false_ne_true
  | _=>cases y <;> exact absurd (show false=true from hs) Bool.false_ne_true
theorem op_lt:OpR X (compareOp .Lt) (rI0 fun i j=>.bl (decide (i < j))):=opB0 fun _ _ _ _ _ _ _ q=>lt_int q
theorem op_le:OpR X (compareOp .LtE) (rI0 fun i j=>.bl (decide (i≤j))):=opB0 fun _ _ _ _ _ _ _ q=>le_int q
theorem op_gt:OpR X (compareOp .Gt) (rI0 fun i j=>.bl (decide (j < i))):=opB0 fun _ _ _ _ _ _ _ q=>gt_int q
theorem op_lt_str:OpR X (compareOp .Lt) (fun x y H Q=>∃ i j,x=.str i∧y=.str j∧Q (.bl (decide (i.cps.toList < j.cps.toList))) H):=by
  intro pins s σ H x y v u Q I rx ry h
  obtain ⟨i,j,rfl,rfl,q⟩:=h
  obtain ⟨t,rfl⟩:=rx
  obtain ⟨t',rfl⟩:=ry
  exact lt_str (fin_bl I q rfl)
theorem nomark (b:Expr) {op:CmpOp} (h:op≠.In:=by decide) (h2:op≠.NotIn:=by decide):behindInMarks op b=false:=by
  have e1:(op == CmpOp.In)=false:=by cases op <;> first | rfl | exact absurd rfl h
  have e2:(op == CmpOp.NotIn)=false:=by cases op <;> first | rfl | exact absurd rfl h2
  cases b <;> simp [behindInMarks,e1,e2]
theorem pe_cmpR {op:CmpOp} {r:R2} (ho:OpR X (compareOp op) r) (ha:PE X a ta) (hb:PE X b tb) (hm:behindInMarks op b=false):PE X (.Compare a [op] [b] pos) (tOp r ta tb):=by
  intro pins s σ H Q I h
  exact wpAny_Compare1 (binT ha hb I h fun v u s2 x y H2 I2 rx ry q=>ho pins s2 σ H2 x y v u Q I2 rx ry q) hm
def tTest (t:TE):TT:=fun σ H Q=>t σ H fun x H'=>∃ k,x=.bl k∧Q k H'
theorem pt_cmpR {op:CmpOp} {r:R2} (ho:OpR X (compareOp op) r) (ha:PE X a ta) (hb:PE X b tb) (hm:behindInMarks op b=false):PT X (.Compare a [op] [b] pos) (tTest (tOp r ta tb)):=by
  intro pins s σ H Q I h
  refine wpAny_isTrue_Compare1 (thn (ha pins s σ H _ I h) fun v s1 ⟨x,H1,I1,r1,q1⟩=>thn (hb pins s1 σ H1 _ I1 q1) fun u s2 ⟨y,H2,I2,r2,q2⟩ =>
    thn (ho pins s2 σ H2 x y v u _ I2 r1 r2 q2) fun c s3 ⟨z,H3,I3,r3,k,e,q3⟩=>?_) hm
  subst e
  cases r3
  exact wpAny_truthy_bool ⟨H3,I3,q3⟩
def tChain (r r':R2) (ta tb tc:TE):TE:=fun σ H Q=>ta σ H fun x H1=>tb σ H1 fun y H2=>r x y H2 fun z H3=>∃ k,z=.bl k ∧
  (if k=true then tc σ H3 fun w' H4=>r' y w' H4 Q else Q (.bl false) H3)
theorem pe_chain {op op':CmpOp} {r r':R2} (ho:OpR X (compareOp op) r) (ho':OpR X (compareOp op') r') (ha:PE X a ta) (hb:PE X b tb) (hc:PE X c tc)
    (hm:lastMarks [op,op'] [b,c]=false:=by with_unfolding_all rfl):PE X (.Compare a [op,op'] [b,c] pos) (tChain r r' ta tb tc):=by
  intro pins s σ H Q I h
  refine Compare_chain (thn (ha pins s σ H _ I h) fun v s1 ⟨x,H1,I1,r1,q1⟩=>chain_link (thn (hb pins s1 σ H1 _ I1 q1) fun u s2 ⟨y,H2,I2,r2,q2⟩ =>
    thn (ho pins s2 σ H2 x y v u _ I2 r1 r2 q2) fun d s3 ⟨z,H3,I3,r3,k,e,q3⟩=>?_)) hm
  subst e
  cases r3
  refine wpAny_truthy_bool ?_
  cases k with
  | false=>exact ite_ff ⟨.bl false,H3,I3,rfl,q3⟩
  | true=>exact ite_tt (chain_last (thn (hc pins s3 σ H3 _ I3 q3) fun w' s4 ⟨z',H4,I4,r4,q4⟩=>ho' pins s4 σ H4 y z' u w' Q I4 r2 r4 q4))
theorem line63:(sizeLine:Nat) < 2 ^ 63:=by rw [sizeLine_eq];decide
theorem vals1 {x:V} {us:List Value} (r:Vals [x] us):∃ u,us=[u]∧RelV x u:=by
  cases r with
  | cons r1 r2=>cases r2;exact ⟨_,rfl,r1⟩
theorem vals2 {x y:V} {us:List Value} (r:Vals [x,y] us):∃ u w',us=[u,w']∧RelV x u∧RelV y w':=by
  cases r with
  | cons r1 r2 =>
    cases r2 with
    | cons r3 r4=>cases r4;exact ⟨_,_,rfl,r1,r3⟩
theorem call_int1:CallR X (.type "int") (fun xs H Q=>(∃ i,xs=[.int i]∧Q (.int i) H)∨∃ k,xs=[.bl k]∧Q (.int (if k then 1 else 0)) H):=by
  intro pins s σ H xs us Q I r h
  rcases h with ⟨i,rfl,q⟩ | ⟨k,rfl,q⟩
  · obtain ⟨u,rfl,t,rfl⟩:=vals1 r
    exact call_int_int ⟨.int i,H,I,⟨_,rfl⟩,q⟩
  · obtain ⟨u,rfl,r1⟩:=vals1 r
    cases r1
    exact call_int_bool ⟨.int (if k then 1 else 0),H,I.tok _,⟨_,rfl⟩,q⟩
end
end L2
namespace L2
open PySem PySem.Spec PyProof.Rows
structure ObjM (h:Heap) (x dx C:Addr) (mA:Str→Option Value):Prop where
  obj:h.get? x=some (PySem.W.instObj C dx)
  ns:h.Ns1 dx mA
  ne:dx≠x
theorem lookIn_ns {h:Heap} {dx:Addr} {mA:Str→Option Value} (n:h.Ns1 dx mA):∃ od,h.get? dx=some od∧∀ name,PySem.W.lookIn name od=some (mA name):=by
  obtain ⟨o,es,ep,ho,hd,hk,_,hm⟩:=n
  refine ⟨o,ho,fun name=>?_⟩
  have e:=hm name
  unfold nsFind findBy at e
  rw [← Array.find?_toList] at e
  unfold PySem.W.lookIn
  rw [hd]
  dsimp only
  split
  · rename_i y q
    rw [q] at e
    exact congrArg some e
  · rename_i q
    rw [q] at e
    have a:es.toList.any (·.refKey)=false:=by
      rw [List.any_eq_false]
      intro y hy
      obtain ⟨z,t,hkey⟩:=hk y (Array.mem_toList_iff.mp hy)
      simp [DictEntry.refKey,hkey]
    have a':¬ es.toList.any (·.refKey)=true:=by rw [a];exact Bool.false_ne_true
    rw [if_neg a']
    exact congrArg some e
theorem ObjM.look {h:Heap} {x dx C:Addr} {mA:Str→Option Value} (I:ObjM h x dx C mA):∃ od,PySem.W.InstAt h x (PySem.W.instObj C dx) C (some od)∧∀ name,PySem.W.lookIn name od=some (mA name) :=
  let ⟨od,ho,hl⟩:=lookIn_ns I.ns
  ⟨od,⟨I.obj,rfl,rfl,ho⟩,hl⟩
section
variable {prog:Program} {w:World} {A:Around} {E:Value→Shared→Prop} {s:Shared} {K:PySem.W.Frag} {x dx C f:Addr} {mA:Str→Option Value} {name:Str} {v:Value}
end
theorem RelO.some_of {v:V} {o:Option Value} (r:RelO (some v) o):∃ u,o=some u∧RelV v u:=by
  cases o with
  | none=>exact (show False from r).elim
  | some u=>exact ⟨u,rfl,r⟩
section
variable {P:Program} {w:World} {H H':Hp} {h h':Heap} {a C dx:Addr} {fs fs':List (Str × V)}
theorem ins_get (hok:HOk P w H h) (e:H a=some (.ins C dx fs)):∃ mA,ObjM h a dx C mA∧(∀ f,RelO (fs.lookup f) (mA f))∧PySem.Within mA (fs.map (·.1))∧fs.length≤1000∧H dx=some (.own a):=by
  obtain ⟨d,z,ne,ob,mA,n,r,q⟩:=(show ObjOk P w H h a (.ins C dx fs) from hok a _ e)
  exact ⟨mA,⟨ob,n,ne⟩,r,q,z,d⟩
end
structure Cls (K:PySem.W.Frag) (C:Addr):Prop where
  pg:PySem.W.plainGet K C Str.empty=true
  hd:PySem.W.hasDictIn K C=true
  po:PySem.W.plainOver K C=true
  sa:PySem.W.findIn K (.ref C) "__setattr__" = some (some (.builtin "object.__setattr__"))
theorem Cls.get {K:PySem.W.Frag} {C:Addr} (c:Cls K C) (f:Str):PySem.W.plainGet K C f=true:=c.pg
structure Con (K:PySem.W.Frag) (C:Addr) (f:Str) (v:V) (u:Value):Prop where
  at_:PySem.W.findIn K (.ref C) f=some (some u)
  rel:RelV v u
  get:PySem.W.specialIn K u "__get__" = some none
  cp:PySem.W.copiedNames.contains f=false
structure Meth (K:PySem.W.Frag) (C:Addr) (m:Str) (f:Addr):Prop where
  at_:PySem.W.findIn K (.ref C) m=some (some (.ref f))
  fn:PySem.W.isFn K (.ref f)=true
  kp:PySem.W.keepIn K (.ref f)=true
section
variable {X:Cx} {pins:List (Addr × Obj)} {σ:St} {H:Hp} {s:Shared} {a C dx:Addr} {fs:List (Str × V)} {f:Str} {v:V} {A:Around} {E:Value→Shared→Prop}
end
section
variable {X:Cx} {o e value:Expr} {f:Str} {pos pos' tpos:Pos} {ta tv:TE}
end
section
variable {X:Cx} {pins:List (Addr × Obj)} {σ:St} {H:Hp} {s:Shared} {A:Around} {E:Value→Shared→Prop} {Q:Value→Shared→Prop} {c:Value} {b:Bool}
inductive TyOf (K:PySem.W.Frag) (H:Hp):V→Value→Prop where
  | non:TyOf K H .non (.type "NoneType")
  | bl (x:Bool):TyOf K H (.bl x) (.type "bool")
  | int (i:Int):TyOf K H (.int i) (.type "int")
  | str (x:Str):TyOf K H (.str x) (.type "str")
  | flt (x:UInt64):TyOf K H (.flt x) (.type "float")
  | lst {a:Addr} {xs:List V} (e:H a=some (.lst xs)):TyOf K H (.ref a) (.type "list")
  | frz {a:Addr} {o:Obj} {xs:List V} (e:H a=some (.frz o (.lst xs))):TyOf K H (.ref a) (.type "list")
  | tup {a:Addr} {xs:List V} (e:H a=some (.tup xs)):TyOf K H (.ref a) (.type "tuple")
  | dK {a:Addr} {kvs:List (Key × V)} (e:H a=some (.dK kvs)):TyOf K H (.ref a) (.type "dict")
  | dT {a:Addr} {kvs:List (List Key × V)} (e:H a=some (.dT kvs)):TyOf K H (.ref a) (.type "dict")
  | ins {a C dx:Addr} {fs:List (Str × V)} (e:H a=some (.ins C dx fs)) (cl:Cls K C) (ha:PySem.W.findIn K (.ref C) "__class__" = some (some (.builtin "object.__class__")))
      (hn:PySem.W.specialIn K (.builtin "object.__class__") "__get__" = some (some (.builtin "getset_descriptor.__get__"))) (htk:PySem.W.takesIn K (.builtin "object.__class__")=some true)
      (hm:PySem.W.mroIn K C (.type "object")=some true):TyOf K H (.ref a) (.ref C)
theorem isinst_ok {x:V} {u t:Value} (I:Inv X pins σ H s) (rx:RelV x u) (ty:TyOf X.K H x t) (e:PySem.W.kitOne X.K t c=some b) (h:∀ tk,Q (.bool b) { s with toks:=tk }) :
    wpAny (model X.prog X.w) A (call (.builtin "isinstance") [u,c]) Q E s:=by
  cases ty with
  | non=>cases (show u=Value.none from rx);exact PySem.W.kia_one PySem.W.kitx_none I.kIn True.intro e (fun z=>nomatch z) h
  | bl y=>cases (show u=Value.bool y from rx);exact PySem.W.kia_one PySem.W.kitx_bool I.kIn True.intro e (fun z=>nomatch z) h
  | int i=>obtain ⟨t,q⟩:=(show ∃ t,u=Value.int i t from rx);cases q;exact PySem.W.kia_one PySem.W.kitx_int I.kIn True.intro e (fun z=>nomatch z) h
  | str y=>obtain ⟨t,q⟩:=(show ∃ t,u=Value.str y t from rx);cases q;exact PySem.W.kia_one PySem.W.kitx_str I.kIn True.intro e (fun z=>nomatch z) h
  | flt y=>obtain ⟨t,q⟩:=(show ∃ t,u=Value.float y t from rx);cases q;exact PySem.W.kia_one PySem.W.kitx_float I.kIn True.intro e (fun z=>nomatch z) h
  | @lst a xs ea =>
    cases (show u=Value.ref a from rx)
    obtain ⟨_,_,n,_,h1⟩:=(show ObjOk X.prog X.w H s.heap a (.lst xs) from I.hok a _ ea)
    exact PySem.W.kia_one PySem.W.kitx_list I.kIn ⟨_,h1,rfl⟩ e (fun z=>nomatch z) h
  | @frz a ob xs ea =>
    cases (show u=Value.ref a from rx)
    obtain ⟨_,_,_,n,_,h1⟩:=(show ObjOk X.prog X.w H s.heap a (.frz ob (.lst xs)) from I.hok a _ ea)
    exact PySem.W.kia_one PySem.W.kitx_list I.kIn ⟨_,h1,rfl⟩ e (fun z=>nomatch z) h
  | @tup a xs ea =>
    cases (show u=Value.ref a from rx)
    obtain ⟨_,_,_,p⟩:=(show ObjOk X.prog X.w H s.heap a (.tup xs) from I.hok a _ ea)
    obtain ⟨o,h1,h2,_⟩:=p
    exact PySem.W.kia_one PySem.W.kitx_tuple I.kIn ⟨o,h1,h2⟩ e (fun z=>nomatch z) h
  | @dK a kvs ea =>
    cases (show u=Value.ref a from rx)
    obtain ⟨_,_,vs,_,p⟩:=(show ObjOk X.prog X.w H s.heap a (.dK kvs) from I.hok a _ ea)
    obtain ⟨o,es,ep,h1,h2,_⟩:=p
    exact PySem.W.kia_one PySem.W.kitx_dict I.kIn ⟨o,h1,h2.1⟩ e (fun z=>nomatch z) h
  | @dT a kvs ea =>
    cases (show u=Value.ref a from rx)
    obtain ⟨_,_,xs,_,o,es,ep,h1,h2,_⟩:=(show ObjOk X.prog X.w H s.heap a (.dT kvs) from I.hok a _ ea)
    exact PySem.W.kia_one PySem.W.kitx_dict I.kIn ⟨o,h1,h2.1⟩ e (fun z=>nomatch z) h
  | @ins a C dx fs ea cl ha hn htk hm =>
    cases (show u=Value.ref a from rx)
    obtain ⟨mA,O,_⟩:=ins_get I.hok ea
    obtain ⟨od,J,_⟩:=O.look
    exact PySem.W.kia_one (PySem.W.kitx_own (cl.get _) cl.hd ha hn htk hm) I.kIn J e (fun z=>nomatch z) h
end
end L2
namespace L2
open PySem PySem.Spec PyProof.Rows
structure Room (k:Nat) (A:Around):Prop where
  hd:A.handled=none
  dp:A.depth + 3 * k + 5 < recursionLimit
  un:A.units + 16 * k + 200 < cLine
theorem Room.mono {j k:Nat} {A:Around} (r:Room k A) (h:j≤k):Room j A:=⟨r.hd,by have:=r.dp;omega,by have:=r.un;omega⟩
theorem Room.deeper {k:Nat} {A:Around} (r:Room (k + 1) A) (env:Env):Room k (A.deeper env) :=
  ⟨r.hd,by have:=r.dp;show A.depth + 1 + 3 * k + 5 < _;omega,by have:=r.un;show A.units + 3 + 16 * k + 200 < _;omega⟩
theorem Room.depth {k:Nat} {A:Around} (r:Room k A):A.depth < recursionLimit:=by have:=r.dp;omega
theorem Room.units {k:Nat} {A:Around} (r:Room k A):A.units + 64 < cLine:=by have:=r.un;omega
def tNil:TA:=fun _ H Q=>Q [] H
def tCons (ta:TE) (tr:TA):TA:=fun σ H Q=>ta σ H fun x H1=>tr σ H1 fun xs H2=>Q (x :: xs) H2
section
variable {X:Cx} {e:Expr} {es:List Expr} {te:TE} {t:TA} {pos:Pos}
theorem pa_nil:PA X [] tNil:=fun _ _ _ _ H Q I h=>Calls.spliced_nil ⟨[],H,I,.nil,h⟩
theorem pa_cons (ha:PE X e te) (hr:PA X es t) (hs:starEach (e :: es) X.env=(false,eval e X.env) :: starEach es X.env:=by rfl):PA X (e :: es) (tCons te t):=by
  intro pos pins s σ H Q I h
  rw [hs]
  show wpAny _ _ (spliced ((false,eval e X.env) :: backTo pos (starEach es X.env))) _ _ s
  refine Calls.spliced_cons (thn (ha pins s σ H _ I h) fun u s1 ⟨x,H1,I1,r1,q1⟩=>?_)
  exact thn (hr pos pins s1 σ H1 _ I1 q1) fun us s2 ⟨xs,H2,I2,r2,q2⟩=>⟨x :: xs,H2,I2,.cons r1 r2,q2⟩
def tTup (t:TA):TE:=fun σ H Q=>t σ H fun xs H1=>xs.length≤sizeLine∧∀ p,H1 p=none→Q (.ref p) (upd H1 p (.tup xs))
def tLst (t:TA):TE:=fun σ H Q=>t σ H fun xs H1=>xs.length≤sizeLine∧∀ p,H1 p=none→Q (.ref p) (upd H1 p (.lst xs))
theorem pe_tup {x1} (h:PA X es t):PE X (.Tuple es x1 pos) (tTup t):=by
  intro pins s σ H Q I hq
  refine wpAny_Tuple_spliced (thn (h pos pins s σ H _ I hq) fun us s1 ⟨xs,H1,I1,r,z,q⟩=>⟨by rw [← r.length];exact z,?_⟩)
  have hf:H1 s1.heap.objs.size=none:=I1.hok.fresh (Nat.le_refl _)
  refine ⟨.ref s1.heap.objs.size,upd H1 s1.heap.objs.size (.tup xs),I1.laid (t':=s1.toks) (fun b u e=>Heap.get?_push_of_some _ e) (Nat.le_refl _) ?_,rfl,q _ hf⟩
  exact ⟨z,us,r,⟨_,Heap.get?_push_size _ rfl,rfl,_,rfl⟩⟩
theorem pe_lst (h:PA X es t):PE X (.List es pos) (tLst t):=by
  intro pins s σ H Q I hq
  refine wpAny_List_spliced (thn (h pos pins s σ H _ I hq) fun us s1 ⟨xs,H1,I1,r,z,q⟩=>⟨by rw [← r.length];exact z,?_⟩)
  have hf:H1 s1.heap.objs.size=none:=I1.hok.fresh (Nat.le_refl _)
  refine ⟨.ref s1.heap.objs.size,upd H1 s1.heap.objs.size (.lst xs),I1.laid (t':=s1.toks) (fun b u e=>Heap.get?_push_of_some _ e) (Nat.le_refl _) ?_,rfl,q _ hf⟩
  exact ⟨z,us,0,r,Heap.get?_push_size _ rfl⟩
end
abbrev Sp:=List V→Hp→VK→XK→Prop
abbrev CXT:=List Env→Hp→Shared→XK→Value→Shared→Prop
structure Env0 (P:Program) (w:World) (K:PySem.W.Frag) (mg:Str→Option Value) (base:Heap) (A:Around) (outer:List Env) (s:Shared) (H:Hp):Prop where
  frames:A.frames=some outer
  mod:Mod K mg base
  bs:∀ b o,base.get? b=some o→s.heap.get? b=some o∧H b=none
  bsz:base.objs.size≤s.heap.objs.size
  funs:s.heap.FunFrames base outer
  frf:∀ b ∈ frs outer,H b=none
  hok:HOk P w H s.heap
  bare:AllBare s.gens
def CE (outer:List Env) (P:Program) (w:World) (H:Hp) (s:Shared) (Q:VK) (u:Value) (s':Shared):Prop :=
  ∃ v H',s'.os=s.os∧AllBare s'.gens∧Un (frs outer) [] H H' s.heap s'.heap∧HOk P w H' s'.heap∧RelV v u∧Q v H'
def CR (CX:CXT) (outer:List Env) (P:Program) (w:World) (H:Hp) (s:Shared) (Q:VK) (E:XK) (r:Result) (s':Shared):Prop :=
  match r with
  | .ok (.ret u)=>CE outer P w H s Q u s'
  | .ok _=>False
  | .error e=>CX outer H s E e s'
structure FnOk (P:Program) (w:World) (K:PySem.W.Frag) (mg:Str→Option Value) (base:Heap) (CX:CXT) (k:Nat) (f:Addr) (fd:FuncData) (ps:List Str) (sp:Sp):Prop where
  len:∀ vs H Q E,sp vs H Q E→vs.length=ps.length
  run:∀ (A:Around) (outer:List Env) (s:Shared) (H:Hp) (args:Args) (us:List Value) (vs:List V) (Q:VK) (E:XK),Room k A→Env0 P w K mg base A outer s H→BindsTo s fd args (ps.zip us)→Vals vs us→sp vs H Q E →
    codeAny (model P w) A (.call (.ref f) args) (CR CX outer P w H s Q E) s
section
variable {X:Cx} {pins:List (Addr × Obj)} {σ:St} {H:Hp} {s s':Shared}
theorem Inv.env0 (I:Inv X pins σ H s):Env0 X.prog X.w X.K X.mg X.base X.A X.stack s H :=
  ⟨I.ok.frames,I.ok.mod,I.bs,Nat.le_trans I.ok.bsz I.sz,I.stack,I.stkFree,I.hok,I.bare⟩
theorem Inv.after {Q:VK} {u:Value} (I:Inv X pins σ H s) (h:CE X.stack X.prog X.w H s Q u s'):EP X pins σ Q u s':=by
  obtain ⟨v,H',os,bare,un,hok,r,q⟩:=h
  obtain ⟨hh,g,d,t,os'⟩:=s'
  obtain rfl:os'=s.os:=os
  exact ⟨v,H',I.call (h':=hh) (g':=g) (d':=d) (t':=t) (ch:=[]) un hok bare (fun b z=>absurd z (by simp)),r,q⟩
end
def tCall (sp:Sp) (dvs:List V) (E:XK) (t:TA):TE:=fun σ H Q=>t σ H fun vs H1=>sp (vs ++ dvs) H1 Q E
def Binds (K:PySem.W.Frag) (fd:FuncData) (ps:List Str) (ds:List Value):Prop :=
  ∀ (s:Shared) (us:List Value),K.In s.heap→(us ++ ds).length=ps.length→BindsTo s fd ⟨us,[]⟩ (ps.zip (us ++ ds))
theorem Binds.all {K:PySem.W.Frag} {fd:FuncData} {ps:List Str} (h:∀ us:List Value,us.length=ps.length→bindArgs fd ⟨us,[]⟩=pure (ps.zip us)):Binds K fd ps []:=fun s us _ hl=>by
  rw [List.append_nil] at hl ⊢
  exact .of_eq (h us hl)
def Passes (CX:CXT) (X:Cx) (E:XK):Prop:=∀ (pins:List (Addr × Obj)) (σ:St) (H:Hp) (s:Shared) (e:Value) (s':Shared),Inv X pins σ H s→CX X.stack H s E e s'→X.xe e s'
section
variable {X:Cx} {CX:CXT} {k:Nat} {f C:Addr} {fd:FuncData} {ps:List Str} {sp:Sp} {dvs:List V} {ds:List Value} {E:XK} {x m:Str} {p pos apos:Pos} {e o:Expr} {es:List Expr} {ta:TE} {t:TA}
theorem run_fn {pins:List (Addr × Obj)} {σ:St} {H:Hp} {s:Shared} {Q:VK} {us:List Value} {vs:List V} (F:FnOk X.prog X.w X.K X.mg X.base CX k f fd ps sp) (hr:Room k X.A) (hb:Binds X.K fd ps ds) (hd:Vals dvs ds) (hx:Passes CX X E)
    (I:Inv X pins σ H s) (r:Vals vs us) (h:sp (vs ++ dvs) H Q E):wpAny (model X.prog X.w) X.A (call (.ref f) us) (EP X pins σ Q) X.xe s:=by
  have r2:Vals (vs ++ dvs) (us ++ ds):=r.append hd
  have hl:(us ++ ds).length=ps.length:=by rw [← r2.length];exact F.len _ _ _ _ h
  refine wpAny_call (codeAny_mono (F.run X.A X.stack s H ⟨us,[]⟩ (us ++ ds) (vs ++ dvs) Q E hr I.env0 (hb s us I.kIn hl) r2 h) fun r s' hq=>?_)
  cases r with
  | error e=>exact hx pins σ H s e s' I hq
  | ok fl =>
    cases fl with
    | ret u=>exact I.after hq
    | next=>exact False.elim hq
    | brk=>exact False.elim hq
    | cont=>exact False.elim hq
theorem pe_call (F:FnOk X.prog X.w X.K X.mg X.base CX k f fd ps sp) (hr:Room k X.A) (hg:Gl X x) (hm:X.mg x=some (.ref f)) (hk:PySem.W.keepIn X.K (.ref f)=true) (hb:Binds X.K fd ps ds) (hd:Vals dvs ds) (hx:Passes CX X E)
    (ha:PA X (e :: es) t) (hdb:(x == ("__debug__" : Str))=false:=by decide) (he:starEach (e :: es) X.env=(false,eval e X.env) :: starEach es X.env:=by rfl) (hpl:(backTo pos (starEach es X.env)).any (·.1)=false:=by rfl) :
    PE X (.Call (.Name x p) (e :: es) [] pos) (tCall sp dvs E t):=by
  intro pins s σ H Q I h
  refine wpAny_Call_Name_kw (ld_glob I hg hm ?_ hdb)
  refine PySem.W.callWith_K (h₀:=X.base) I.ok.mod.kin hk (thn (ha pos pins s σ H _ I h) fun us s1 ⟨vs,H1,I1,r,q⟩=>⟨I1.kIn,?_⟩) he hpl
  exact run_fn F hr hb hd hx I1 r q
structure Mk (K:PySem.W.Frag) (C f:Addr):Prop where
  makes:PySem.W.makesIn K C=true
  init:PySem.W.findIn K (.ref C) "__init__" = some (some (.ref f))
  fn:PySem.W.isFn K (.ref f)=true
  kp:PySem.W.keepIn K (.ref C)=true
end
def PK (X:Cx) (kws:List Keyword) (t:TA):Prop :=
  ∀ (pos:Pos) (pins:List (Addr × Obj)) (s:Shared) (σ:St) (H:Hp) (Q:List V→Hp→Prop),Inv X pins σ H s→t σ H Q→wpAny (model X.prog X.w) X.A (evalAll ((backToKw pos (keywordEach kws X.env)).map (·.2))) (AP X pins σ Q) X.xe s
section
variable {X:Cx} {CX:CXT} {k:Nat} {f C:Addr} {fd:FuncData} {ps ks:List Str} {sp:Sp} {E:XK} {x m:Str} {p pos apos kpos:Pos} {e o:Expr} {es:List Expr} {kws:List Keyword} {te ta:TE} {t tk:TA} {nm:Option Str}
theorem pk_nil:PK X [] tNil:=fun _ _ _ _ H Q I h=>wpAny_evalAll_nil ⟨[],H,I,.nil,h⟩
theorem pk_cons (ha:PE X e te) (hr:PK X kws t):PK X (⟨nm,e,kpos⟩ :: kws) (tCons te t):=by
  intro pos pins s σ H Q I h
  show wpAny _ _ (evalAll ((do let v ← eval e X.env;standAt pos;pure v) :: (backToKw pos (keywordEach kws X.env)).map (·.2))) _ _ s
  refine wpAny_evalAll_cons (wpAny_bind (thn (ha pins s σ H _ I h) fun u s1 ⟨x,H1,I1,r1,q1⟩=>wpAny_bind (wpAny_standAt (wpAny_pure ?_))))
  exact thn (hr pos pins s1 σ H1 _ I1 q1) fun us s2 ⟨xs,H2,I2,r2,q2⟩=>⟨x :: xs,H2,I2,.cons r1 r2,q2⟩
structure KBinds (K:PySem.W.Frag) (fd:FuncData) (ps ks:List Str) (g:List Value→List Value→List Value) (gV:List V→List V→List V):Prop where
  to:∀ (s:Shared) (us ws:List Value),K.In s.heap→(g us ws).length=ps.length→BindsTo s fd ⟨us,ks.zip ws⟩ (ps.zip (g us ws))
  rel:∀ {vs:List V} {us:List Value} {zs:List V} {ws:List Value},Vals vs us→Vals zs ws→Vals (gV vs zs) (g us ws)
variable {g:List Value→List Value→List Value} {gV:List V→List V→List V}
end
structure FnScope (N P:List Str) (sc:Scope):Prop where
  kind:sc.kind=.function
  co:sc.isCoroutine=false
  gen:sc.isGenerator=false
  nd:N.Nodup
  pre:N.take P.length=P
  par:∀ x ∈ P,sc.names.lookup x=some .local∨sc.names.lookup x=some .cell
  nofree:∀ y ∈ sc.names,y.2≠.free
theorem bindL_out {kindOf:Str→Option NameKind} {x:Str}:∀ {binds:List (Str × Value)} {m:Str→Option Value},(∀ v,(x,v) ∉ binds)→bindL kindOf binds m x=m x
  | [],_,_=>rfl
  | (n,v) :: r,m,h=>by
    unfold bindL
    rw [bindL_out fun w hw=>h w (List.mem_cons_of_mem _ hw)]
    split
    · have:x≠n:=by rintro rfl;exact h v List.mem_cons_self
      simp [this]
    · rfl
theorem bindC_out {kindOf:Str→Option NameKind} {x:Str}:∀ {binds:List (Str × Value)} {m:Str→Option Value},(∀ v,(x,v) ∉ binds)→bindC kindOf binds m x=m x
  | [],_,_=>rfl
  | (n,v) :: r,m,h=>by
    unfold bindC
    rw [bindC_out fun w hw=>h w (List.mem_cons_of_mem _ hw)]
    split
    · rfl
    · have:x≠n:=by rintro rfl;exact h v List.mem_cons_self
      simp [this]
theorem bindL_get {kindOf:Str→Option NameKind} {x:Str} {v:Value}:∀ {P:List Str} {vs:List Value} {i:Nat} {m:Str→Option Value},P.Nodup→P[i]?=some x→vs[i]?=some v→kindOf x=some .local →
    bindL kindOf (P.zip vs) m x=some v
  | [],_,_,_,_,h,_,_=>by simp at h
  | _ :: _,[],_,_,_,_,h,_=>by simp at h
  | p :: P,w :: vs,0,m,nd,h1,h2,hk=>by
    simp at h1 h2;subst h1;subst h2
    show bindL kindOf ((p,w) :: P.zip vs) m p=_
    unfold bindL
    rw [bindL_out fun v hv=>(List.nodup_cons.mp nd).1 (List.of_mem_zip hv).1,if_pos hk]
    simp
  | p :: P,w :: vs,i + 1,m,nd,h1,h2,hk=>by
    show bindL kindOf ((p,w) :: P.zip vs) m x=_
    unfold bindL
    exact bindL_get (i:=i) (List.nodup_cons.mp nd).2 (by simpa using h1) (by simpa using h2) hk
theorem bindC_get {kindOf:Str→Option NameKind} {x:Str} {v:Value}:∀ {P:List Str} {vs:List Value} {i:Nat} {m:Str→Option Value},P.Nodup→P[i]?=some x→vs[i]?=some v→kindOf x≠some .local →
    bindC kindOf (P.zip vs) m x=some v
  | [],_,_,_,_,h,_,_=>by simp at h
  | _ :: _,[],_,_,_,_,h,_=>by simp at h
  | p :: P,w :: vs,0,m,nd,h1,h2,hk=>by
    simp at h1 h2;subst h1;subst h2
    show bindC kindOf ((p,w) :: P.zip vs) m p=_
    unfold bindC
    rw [bindC_out fun v hv=>(List.nodup_cons.mp nd).1 (List.of_mem_zip hv).1,if_neg hk]
    simp
  | p :: P,w :: vs,i + 1,m,nd,h1,h2,hk=>by
    show bindC kindOf ((p,w) :: P.zip vs) m x=_
    unfold bindC
    exact bindC_get (i:=i) (List.nodup_cons.mp nd).2 (by simpa using h1) (by simpa using h2) hk
def start (N:List Str) (vs:List V):St:=vs.map some ++ List.replicate (N.length - vs.length) none
def cxOf (CX:CXT) (P:Program) (w:World) (K:PySem.W.Frag) (mg:Str→Option Value) (base:Heap) (N:List Str) (qual:Str) (scope:Scope) (f:Addr) (cd:Value) (A:Around) (outer:List Env) (s:Shared) (H:Hp) (E:XK):Cx where
  prog:=P
  w:=w
  K:=K
  mg:=mg
  base:=base
  A:=A.deeper (envOfC qual scope s.heap.objs.size f cd)
  N:=N
  s₀:=s
  H₀:=H
  env:=envOfC qual scope s.heap.objs.size f cd
  outer:=outer
  stack:=envOfC qual scope s.heap.objs.size f cd :: outer
  ex:=[]
  calm:=true
  fn:=fun _=>true
  pn:=[]
  xe:=fun e s'=>wpAny (model P w) (A.deeper (envOfC qual scope s.heap.objs.size f cd)) (leaving (envOfC qual scope s.heap.objs.size f cd) e) (fun _ s''=>CX outer H s E e s'') (fun e' s''=>CX outer H s E e' s'') s'
theorem cell_has {sc:Scope} {n:Nat} {x:Str} (h:sc.names.lookup x=some .cell):∃ c,(cellsFrom n sc.names []).lookup x=some c:=by
  have q:=PySem.W.cellsFrom_some sc.names n [] (.inl h)
  exact Option.isSome_iff_exists.mp q
theorem inv_start {CX:CXT} {P:Program} {w:World} {K:PySem.W.Frag} {mg:Str→Option Value} {base:Heap} {N ps:List Str} {qual:Str} {scope:Scope} {f:Addr} {cd:Value} {A:Around} {outer:List Env} {s s1:Shared} {H:Hp} {E:XK} {us:List Value} {vs:List V}
    (S:FnScope N ps scope) (hd:A.handled=none) (e0:Env0 P w K mg base A outer s H) (hl:vs.length=ps.length) (r:Vals vs us)
    (x:InCallC s s.heap.objs.size (bindL (envOfC qual scope s.heap.objs.size f cd).kindOf (ps.zip us) fun _=>none) (cellsFrom (s.heap.objs.size + 1) scope.names []) (bindC (envOfC qual scope s.heap.objs.size f cd).kindOf (ps.zip us) fun _=>none) s1) :
    Inv (cxOf CX P w K mg base N qual scope f cd A outer s H E) [] (start N vs) H s1:=by
  have hpl:ps.length≤N.length:=by have:=congrArg List.length S.pre;rw [List.length_take] at this;omega
  obtain ⟨h1,tk,rfl,hk⟩:=x.done
  have noA:∀ b:Addr,b ∉ (cxOf CX P w K mg base N qual scope f cd A outer s H E).ex:=fun b z=>absurd (show b ∈ ([]:List Addr) from z) (by simp)
  refine ⟨⟨e0.mod,S.kind,rfl,rfl,Nat.le_refl _,fun y z c h1 h2=>?_,fun y hy=>?_,fun y c _ h=>?_,fun _=>hd,Around.frames_deeper e0.frames,.inr ⟨rfl,rfl⟩,fun b z=>absurd z (noA b),e0.bs,e0.bsz,fun b _ _=>noA b,fun b z=>absurd z (noA b),e0.funs,e0.frf⟩,
    rfl,e0.bare,Un.kept hk,⟨_,x.toInCall.ns,fun i y v h1 h2 h3=>?_⟩,fun y c h=>⟨_,x.cell y c h⟩,e0.hok.fresh (Nat.le_refl _),fun y c h=>?_,fun p hp=>absurd (show p ∈ ([]:List (Addr × Obj)) from hp) (by simp),e0.hok.kept hk,?_⟩
  · exact name_of_addr x.apart (PySem.mem_of_lookup h1) (PySem.mem_of_lookup h2)
  · have hy:scope.names.lookup y=some .cell∨scope.names.lookup y=some .free:=hy
    rcases hy with hy | hy
    · exact cell_has hy
    · exact absurd rfl (S.nofree _ (PySem.mem_of_lookup hy))
  · exact Nat.le_of_lt (x.above y c (PySem.mem_of_lookup h))
  · have hi:i < vs.length:=by
      unfold start at h2
      by_cases hi:i < vs.length
      · exact hi
      · rw [List.getElem?_append_right (by simpa using hi)] at h2
        rw [List.getElem?_replicate] at h2
        split at h2 <;> cases h2
    have ha:vs[i]?=some v:=by
      unfold start at h2
      rw [List.getElem?_append_left (by simpa using hi),List.getElem?_map] at h2
      cases e:vs[i]? with
      | none=>rw [e] at h2;cases h2
      | some a=>rw [e] at h2;cases h2;rfl
    obtain ⟨u,hu,rv⟩:=r.get ha
    have hp:ps[i]?=some y:=by
      rw [← S.pre,List.getElem?_take_of_lt (by omega)];exact h1
    have ndP:ps.Nodup:=by rw [← S.pre];exact S.nd.sublist (List.take_sublist _ _)
    refine ⟨u,rv,?_⟩
    rcases S.par y (List.mem_of_getElem? hp) with k | k
    · exact .inl ⟨k,bindL_get ndP hp hu k⟩
    · obtain ⟨c,e⟩:=cell_has (n:=s.heap.objs.size + 1) k
      refine .inr ⟨.inl k,c,e,?_⟩
      have q:=x.cell y c e
      rw [bindC_get ndP hp hu (by show scope.names.lookup y≠_;rw [k];decide)] at q
      exact q
  · exact e0.hok.fresh (Nat.le_of_lt (x.above y c (PySem.mem_of_lookup h)))
  · unfold start
    show _=N.length
    rw [List.length_append,List.length_map,List.length_replicate]
    omega
theorem fn_of {CX:CXT} {P:Program} {w:World} {K:PySem.W.Frag} {mg:Str→Option Value} {base:Heap} {k:Nat} {f:Addr} {name qual:Str} {params:Arguments} {body:List Stmt} {scope:Scope} {dV kV doc pm cdv ct oc:Value} {an od:Option Addr}
    {osl:Array (Option Value)} {N ps:List Str} {sp:Sp} (lk:K.lookup f=some ⟨oc,od,.func (PySem.W.fnOf name qual params body scope dV kV doc pm an cdv ct),osl⟩) (hcd:PySem.W.codeIn K cdv qual=true) (S:FnScope N ps scope)
    (len:∀ vs H Q E,sp vs H Q E→vs.length=ps.length)
    (hbody:∀ (A:Around) (outer:List Env) (s:Shared) (H:Hp) (vs:List V) (Q:VK) (E:XK),Room k (A.deeper (envOfC qual scope s.heap.objs.size f cdv))→sp vs H Q E →
      ∃ t,PSs (cxOf CX P w K mg base N qual scope f cdv A outer s H E) body t∧t { nx:=fun _ H'=>Q .non H',rt:=Q } (start N vs) H) :
    FnOk P w K mg base CX (k + 1) f (PySem.W.fnOf name qual params body scope dV kV doc pm an cdv ct) ps sp:=by
  refine ⟨len,fun A outer s H args us vs Q E hr e0 hb r hsp=>?_⟩
  have hl:=len _ _ _ _ hsp
  have KX:K.In s.heap:=e0.mod.kin.keeps fun b o e=>(e0.bs b o e).1
  have lim:s.heap.NoLimit:=e0.mod.nolimit.keeps fun b o e=>(e0.bs b o e).1
  have hkind:∀ y ∈ ps.zip us,scope.names.lookup y.1=some .local∨(scope.names.lookup y.1=some .cell∧((cellsFrom (s.heap.objs.size + 1) scope.names []).lookup y.1).isSome=true):=fun ⟨n,v⟩ hy=>by
    rcases S.par n (List.of_mem_zip hy).1 with q | q
    · exact .inl q
    · exact .inr ⟨q,PySem.W.cellsFrom_some _ _ _ (.inl q)⟩
  refine codeAny_call_function hr.depth (KX _ _ lk) rfl S.co S.gen rfl (PySem.W.codeRec_of KX hcd) (hb _ _ _ _ ?_)
  refine wpAny_newFunctionEnv_cells S.kind hkind fun env he s1 x=>?_
  subst he
  refine ⟨lim.keeps x.toInCall.keep,codeAny_func ?_⟩
  obtain ⟨t,ht,hq⟩:=hbody A outer s H vs Q E (hr.deeper _) hsp
  have I:Inv (cxOf CX P w K mg base N qual scope f cdv A outer s H E) [] (start N vs) H s1:=inv_start S hr.hd e0 hl r x
  refine wpAny_mono (ht [] s1 (start N vs) H _ I hq) (fun fl s' hs=>?_) fun e s' hs=>hs
  have fin:∀ {σ':St} {H':Hp} {v:V} {u:Value},Inv (cxOf CX P w K mg base N qual scope f cdv A outer s H E) [] σ' H' s'→RelV v u→Q v H'→CE outer P w H s Q u s' :=
    fun {σ' H' v u} J rv q=>⟨v,H',J.os,J.bare,J.base,J.hok,rv,q⟩
  cases fl with
  | ret u =>
    obtain ⟨v,σ',H',J,rv,q⟩:=hs
    exact fin J rv q
  | next =>
    obtain ⟨σ',H',J,q⟩:=hs
    exact fin (v:=V.non) (u:=Value.none) J rfl q
  | brk =>
    obtain ⟨_,_,_,q⟩:=hs
    exact False.elim q
  | cont =>
    obtain ⟨_,_,_,q⟩:=hs
    exact False.elim q
end L2
namespace L2
open PySem PySem.Spec PyProof.Rows
section
variable {X:Cx} {x:Str} {p pos:Pos} {e:Expr} {es:List Expr} {t:TA} {id T:String} {r:List V→Hp→VK→Prop}
def tCB (r:List V→Hp→VK→Prop) (t:TA):TE:=fun σ H Q=>t σ H fun vs H1=>r vs H1 Q
theorem pe_callB (hc:CallR X (.builtin id) r) (hg:Gl X x) (hm:X.mg x=none) (hv:bootBuiltins x=some (.builtin id)) (ha:PA X (e :: es) t) (hn:x ≠ "__name__" := by decide) (hdb:(x == ("__debug__" : Str))=false:=by decide)
    (he:starEach (e :: es) X.env=(false,eval e X.env) :: starEach es X.env:=by rfl) (hpl:(backTo pos (starEach es X.env)).any (·.1)=false:=by rfl):PE X (.Call (.Name x p) (e :: es) [] pos) (tCB r t):=by
  intro pins s σ H Q I h
  refine wpAny_Call_Name_kw (ld_blt I hg hm hv ?_ hn hdb)
  exact PyProof.Rows.callWith_builtin1 (thn (ha pos pins s σ H _ I h) fun us s1 ⟨vs,H1,I1,r1,q1⟩=>hc pins s1 σ H1 vs us Q I1 r1 q1) he hpl
theorem pe_callTy (hc:CallR X (.type T) r) (hg:Gl X x) (hm:X.mg x=none) (hv:bootBuiltins x=some (.type T)) (ha:PA X (e :: es) t) (hn:x ≠ "__name__" := by decide) (hdb:(x == ("__debug__" : Str))=false:=by decide)
    (he:starEach (e :: es) X.env=(false,eval e X.env) :: starEach es X.env:=by rfl) (hpl:(backTo pos (starEach es X.env)).any (·.1)=false:=by rfl):PE X (.Call (.Name x p) (e :: es) [] pos) (tCB r t):=by
  intro pins s σ H Q I h
  refine wpAny_Call_Name_kw (ld_blt I hg hm hv ?_ hn hdb)
  exact PyProof.Rows.callWith_type1 (thn (ha pos pins s σ H _ I h) fun us s1 ⟨vs,H1,I1,r1,q1⟩=>hc pins s1 σ H1 vs us Q I1 r1 q1) he hpl
end
end L2
namespace HT
open PySem PyProof.Rows
def lexLt:List Int→List Int→Bool
  | [],[]=>false
  | [],_ :: _=>true
  | _ :: _,[]=>false
  | x :: xs,y :: ys=>if x=y then lexLt xs ys else decide (x < y)
theorem lexLt_cons (x y:Int) (xs ys:List Int):lexLt (x :: xs) (y :: ys)=if x=y then lexLt xs ys else decide (x < y):=rfl
section
open PySem.SeqAt
open PySem.AutoSeq1 (wpAny_loadPart')
open PySem.MeetsSeq PySem.MeetsSeq2 PySem.MeetsSeq3
end
section
variable {prog:Program} {w:World} {A:Around} {E:Value→Shared→Prop} {s:Shared}
theorem cat_tup {t b:Addr} {vs ws:List Value} {Q:Value→Shared→Prop} (ht:IsTup s.heap t vs.toArray) (hb:IsTup s.heap b ws.toArray) (hv:vs≠[])
    (h1:ws=[]→Q (.ref t) s) (h2:ws≠[]→Q (.ref s.heap.objs.size) { s with heap:=s.heap.push { cls:=.type "tuple", data:=.seq (vs ++ ws).toArray } })
    (hsz:vs.length + ws.length≤sizeLine):wpAny (model prog w) A (binaryOp .Add (.ref t) (.ref b)) Q E s:=by
  obtain ⟨⟨cls,dd,data,sl⟩,ho,hc,n,hd⟩:=id ht
  obtain ⟨⟨cls2,dd2,data2,sl2⟩,ho2,hc2,n2,hd2⟩:=id hb
  simp only at hc hd hc2 hd2
  subst hc hd hc2 hd2
  have e:vs.toArray ++ ws.toArray=(vs ++ ws).toArray:=by simp
  by_cases hw:ws=[]
  · exact concat_meets ⟨_,ho,rfl⟩ ⟨_,ho2,rfl⟩ noFill_tuple_add seq_tuple_add PySem.F.slot_tuple_add PySem.F.entry_tuple_add (PySem.F.args_tuple_add_2 _ _)
      (tuple_addW1 t b vs.toArray ws.toArray n n2 dd dd2 sl sl2 (by simpa using hv) (by simp [hw])) ⟨ho,ho2,h1 hw⟩
  · refine concat_meets ⟨_,ho,rfl⟩ ⟨_,ho2,rfl⟩ noFill_tuple_add seq_tuple_add PySem.F.slot_tuple_add PySem.F.entry_tuple_add (PySem.F.args_tuple_add_2 _ _)
      (tuple_addW2 t b vs.toArray ws.toArray n n2 dd dd2 sl sl2 (by simpa using hv) (by simpa using hw) (by rw [List.size_toArray,List.size_toArray];exact hsz)) ⟨ho,ho2,?_⟩
    rw [e]
    exact h2 hw
def sIx (n d:Nat):Option Int→Nat
  | none=>d
  | some v=>if v < 0 then (v + (n:Int)).toNat else min v.toNat n
theorem sIx_none (n d:Nat):sIx n d none=d:=rfl
theorem sIx_nat (n d k:Nat):sIx n d (some (k:Int))=min k n:=by
  show (if (k:Int) < 0 then ((k:Int)+(n:Int)).toNat else min (k:Int).toNat n)=min k n
  rw [if_neg (by omega),Int.toNat_natCast]
theorem sIx_le (n d:Nat) (hd:d≤n) (o:Option Int):sIx n d o≤n:=by
  cases o with
  | none=>exact hd
  | some v =>
    show (if v < 0 then (v + (n:Int)).toNat else min v.toNat n)≤n
    by_cases hv:v < 0
    · rw [if_pos hv];omega
    · rw [if_neg hv];exact Nat.min_le_right _ _
theorem clip_eq (v:Int) (n d:Nat):(if v < 0 then max (v + (n:Int)) 0 else min v (n:Int))=((sIx n d (some v):Nat):Int):=by
  show (if v < 0 then max (v + (n:Int)) 0 else min v (n:Int))=(((if v < 0 then (v + (n:Int)).toNat else min v.toNat n):Nat):Int)
  by_cases hv:v < 0
  · simp only [if_pos hv];omega
  · simp only [if_neg hv];omega
theorem adjust_gen (lo hi:Option Int) (n:Nat):Builtin.Slice.sliceAdjust lo hi 1 (n:Int)=(((sIx n 0 lo:Nat):Int),((sIx n n hi:Nat):Int)):=by
  have h1:¬ ((1:Int) < 0):=by omega
  unfold Builtin.Slice.sliceAdjust
  simp only [h1,if_false]
  refine Prod.ext ?_ ?_
  · cases lo with
    | none=>rfl
    | some v=>exact clip_eq v n 0
  · cases hi with
    | none=>rfl
    | some v=>exact clip_eq v n n
theorem places_gen (i j:Nat):Builtin.Slice.slicePlaces (i:Int) (j:Int) 1=j - i:=by
  unfold Builtin.Slice.slicePlaces
  have h1:(1:Int) > 0:=by omega
  simp only [h1,if_true,Int.ediv_one]
  split <;> omega
theorem slicePart_ {v:Value} {o:Option Int} {Q:Option Int→Shared→Prop} (p:IsPart v o) (h:Q o s):wpAny (model prog w) A (Builtin.Slice.slicePartIndex v) Q E s:=by
  cases p with
  | none=>exact slicePart_none h
  | int i t=>exact slicePart_int h
theorem sliceApplied_gen {sl:Addr} {vl vu:Value} {lo hi:Option Int} {n:Nat} {Q:Int × Int × Nat→Shared→Prop} (hs:s.heap.IsSliceOf sl vl vu .none) (pl:IsPart vl lo) (pu:IsPart vu hi)
    (h:Q (((sIx n 0 lo:Nat):Int),1,sIx n n hi - sIx n 0 lo) s):wpAny (model prog w) A (Builtin.Slice.sliceApplied (.ref sl) (pure (n:Int))) Q E s:=by
  obtain ⟨os,hos,hcs,hds⟩:=id hs
  unfold Builtin.Slice.sliceApplied Builtin.Slice.sliceFields
  refine wpAny_bind (wpAny_bind (wpAny_field hos hds (x:=vl) rfl (wpAny_bind (wpAny_field hos hds (x:=vu) rfl (wpAny_bind (wpAny_field hos hds (x:=.none) rfl (wpAny_pure ?_)))))))
  refine wpAny_bind (slicePart_none ?_)
  show wpAny _ _ (if ((1:Int) == 0)=true then _ else _) _ _ s
  rw [if_neg (by decide)]
  refine wpAny_bind (slicePart_ pl (wpAny_bind (slicePart_ pu (wpAny_bind (wpAny_pure ?_)))))
  show wpAny _ _ (match Builtin.Slice.sliceAdjust lo hi 1 (n:Int) with | (lo,hi)=>pure (lo,(1:Int),Builtin.Slice.slicePlaces lo hi 1)) _ _ s
  rw [adjust_gen lo hi n]
  show wpAny _ _ (pure (((sIx n 0 lo:Nat):Int),(1:Int),Builtin.Slice.slicePlaces ((sIx n 0 lo:Nat):Int) ((sIx n n hi:Nat):Int) 1)) _ _ s
  rw [places_gen]
  exact wpAny_pure h
theorem pick_gen (xs:Array Value) (i k:Nat):((List.range k).filterMap fun (m:Nat)=>xs[((i:Int)+(m:Int) * 1).toNat]?).toArray=((xs.toList.drop i).take k).toArray:=by
  have e:(fun (m:Nat)=>xs[((i:Int)+(m:Int) * 1).toNat]?)=fun m=>xs[i + m]?:=by
    funext m
    have:((i:Int)+(m:Int) * 1).toNat=i + m:=by omega
    rw [this]
  rw [e]
  have:=pick_run xs i k
  rw [List.filterMap_map] at this
  have e2:((fun x=>xs[x]?) ∘ fun x=>i + x)=fun m=>xs[i + m]?:=rfl
  rw [e2] at this
  rw [this]
theorem getItem_tuple_cut {t sl:Addr} {items:Array Value} {vl vu:Value} {lo hi:Option Int} {Q:Value→Shared→Prop} (ht:IsTup s.heap t items) (hs:s.heap.IsSliceOf sl vl vu .none) (pl:IsPart vl lo) (pu:IsPart vu hi)
    (hw:¬ (sIx items.size 0 lo=0∧sIx items.size items.size hi=items.size))
    (h:Q (.ref s.heap.objs.size) { s with heap:=s.heap.push { cls:=.type "tuple", data:=.seq ((items.toList.drop (sIx items.size 0 lo)).take (sIx items.size items.size hi - sIx items.size 0 lo)).toArray } })
    (hsz:items.size≤sizeLine):wpAny (model prog w) A (getItem (.ref t) (.ref sl)) Q E s:=by
  have htake:sizeOk (.seq ((items.toList.drop (sIx items.size 0 lo)).take (sIx items.size items.size hi - sIx items.size 0 lo)).toArray):=by
    show ((items.toList.drop (sIx items.size 0 lo)).take (sIx items.size items.size hi - sIx items.size 0 lo)).toArray.size≤sizeLine
    rw [List.size_toArray,List.length_take,List.length_drop,Array.length_toList]
    omega
  have hj:sIx items.size items.size hi≤items.size:=sIx_le _ _ (Nat.le_refl _) hi
  obtain ⟨os,hos,hcs,hds⟩:=id hs
  have hTs:s.TypeIs (.ref sl) "slice" := ⟨os,hos,hcs⟩
  unfold getItem
  try with_reducible refine wpAny_holding ?_
  first | refine wpAny_bind (wpAny_pure ?_) | skip
  refine wpAny_bind (wpAny_sequenceKey ht.typeIs (by decide) ?_)
  refine wpAny_bind (wpAny_callSpecial?_slot (name:=Str.ofString "__getitem__") ht.typeIs PyProof.Rows.slot_tuple_getitem
    (wpAny_call_entry PyProof.Rows.slot_tuple_getitem ht.typeIs entry_tuple_getitem ?_ (args_tuple_getitem _ _)))
  show wpAny _ _ (Builtin.Tuple.tupleItemsOf (.ref t) >>= _) _ _ s
  refine wpAny_bind (tupleItemsOf_ ht ?_)
  refine wpAny_bind (wpAny_typeOf hTs ?_)
  rw [if_pos (by decide)]
  refine wpAny_bind (sliceApplied_gen hs pl pu ?_)
  have hno:¬ ((((sIx items.size 0 lo:Nat):Int) == 0 && (1:Int) == 1 && (sIx items.size items.size hi - sIx items.size 0 lo) == items.size)=true):=by
    intro q
    rw [Bool.and_eq_true,Bool.and_eq_true] at q
    have q1:((sIx items.size 0 lo:Nat):Int)=0:=eq_of_beq q.1.1
    have q2:sIx items.size items.size hi - sIx items.size 0 lo=items.size:=eq_of_beq q.2
    exact hw ⟨by omega,by omega⟩
  show wpAny _ _ (if (((sIx items.size 0 lo:Nat):Int) == 0 && (1:Int) == 1 && (sIx items.size items.size hi - sIx items.size 0 lo) == items.size)=true then _ else _) _ _ s
  rw [if_neg hno,pick_gen]
  first
    | exact wpAny_bind (m:=Builtin.Tuple.tupleExact _) (wpAny_newObj_type (wpAny_pure ⟨_,rfl,wpAny_pure h⟩) htake)
    | exact wpAny_bind (m:=Builtin.Tuple.tupleExact _) (wpAny_newObj_type (wpAny_bind (wpAny_pure (wpAny_pure ⟨_,rfl,wpAny_pure h⟩))) htake)
    | exact wpAny_bind (wpAny_bind (m:=Builtin.Tuple.tupleExact _) (wpAny_newObj_type (wpAny_pure (wpAny_pure ⟨_,rfl,wpAny_pure h⟩)) htake))
    | exact wpAny_bind (wpAny_bind (m:=Builtin.Tuple.tupleExact _) (wpAny_newObj_type (wpAny_pure ⟨_,rfl,wpAny_pure h⟩) htake))
end
end HT
namespace L2
open PySem PySem.Spec PyProof.Rows
abbrev TO:=St→Hp→(Option Int→Hp→Prop)→Prop
def PO (X:Cx) (e:Option Expr) (t:TO):Prop :=
  ∀ (pins:List (Addr × Obj)) (s:Shared) (σ:St) (H:Hp) (Q:Option Int→Hp→Prop),Inv X pins σ H s→t σ H Q →
    wpAny (model X.prog X.w) X.A (evalPart e X.env) (fun u s'=>∃ o H',Inv X pins σ H' s'∧IsPart u o∧Q o H') X.xe s
def tNoPart:TO:=fun _ H Q=>Q none H
def tPart (t:TE):TO:=fun σ H Q=>t σ H fun x H1=>∃ i,x=.int i∧Q (some i) H1
section
variable {X:Cx} {e:Expr} {te:TE} {lo hi:Option Expr} {tl th:TO} {pos p2:Pos}
theorem po_none:PO X none tNoPart:=by
  intro pins s σ H Q I h
  rw [evalPart_none]
  exact wpAny_pure ⟨none,H,I,.none,h⟩
theorem po_some (h:PE X e te):PO X (some e) (tPart te):=by
  intro pins s σ H Q I hw
  rw [evalPart_some]
  refine thn (h pins s σ H _ I hw) fun u s1 ⟨x,H1,I1,r1,q1⟩=>?_
  obtain ⟨i,rfl,q⟩:=q1
  obtain ⟨t,rfl⟩:=r1
  exact ⟨some i,H1,I1,.int i t,q⟩
def SlR (X:Cx) (r:V→Option Int→Option Int→Hp→VK→Prop):Prop :=
  ∀ (pins:List (Addr × Obj)) (s:Shared) (σ:St) (H:Hp) (x:V) (v vl vu:Value) (lo hi:Option Int) (sl:Addr) (Q:VK),Inv X pins σ H s→RelV x v→s.heap.IsSliceOf sl vl vu .none→IsPart vl lo→IsPart vu hi→r x lo hi H Q →
    ∃ T id,typeLookup (.type T) "__getitem__" = pure (some (.builtin id))∧s.TypeIs v T∧wpAny (model X.prog X.w) X.A (getItem v (.ref sl)) (EP X pins σ Q) X.xe s
def tSl (r:V→Option Int→Option Int→Hp→VK→Prop) (te:TE) (tl th:TO):TE:=fun σ H Q=>te σ H fun x H1=>tl σ H1 fun l H2=>th σ H2 fun u H3=>r x l u H3 Q
theorem pe_slice {r:V→Option Int→Option Int→Hp→VK→Prop} (hr:SlR X r) (he:PE X e te) (hl:PO X lo tl) (hu:PO X hi th):PE X (.Subscript e (.Slice lo hi none p2) pos) (tSl r te tl th):=by
  intro pins s σ H Q I h
  refine Subscript_ (thn (he pins s σ H _ I h) fun v s1 ⟨x,H1,I1,r1,q1⟩=>?_)
  refine wpAny_Slice (thn (hl pins s1 σ H1 _ I1 q1) fun vl s2 ⟨l,H2,I2,pl,q2⟩=>thn (hu pins s2 σ H2 _ I2 q2) fun vu s3 ⟨u,H3,I3,pu,q3⟩=>?_)
  rw [evalPart_none]
  refine wpAny_pure ?_
  have I4:Inv X pins σ H3 { s3 with heap:=s3.heap.push { cls:=.type "slice", data:=.fields #[vl,vu,.none] } }:=I3.kept (t':=s3.toks) fun b ob q=>Heap.get?_push_of_some _ q
  obtain ⟨T,id,hT,ht,hg⟩:=hr pins { s3 with heap:=s3.heap.push { cls:=.type "slice", data:=.fields #[vl,vu,.none] } } σ H3 x v vl vu l u s3.heap.objs.size Q I4 r1 (Heap.IsSliceOf.new ..) pl pu q3
  show wpAny (model X.prog X.w) X.A (subscriptTail e (.Slice lo hi none p2) v (.ref s3.heap.objs.size)) (EP X pins σ Q) X.xe { s3 with heap:=s3.heap.push { cls:=.type "slice", data:=.fields #[vl,vu,.none] } }
  exact tail_any (ops:=[.ref s3.heap.objs.size,v]) ht hT hg (by with_unfolding_all rfl)
def cutV (xs:List V) (lo hi:Option Int):List V:=(xs.drop (HT.sIx xs.length 0 lo)).take (HT.sIx xs.length xs.length hi - HT.sIx xs.length 0 lo)
theorem cutV_length (xs:List V) (lo hi:Option Int):(cutV xs lo hi).length≤xs.length:=by
  unfold cutV
  rw [List.length_take,List.length_drop]
  omega
def rSlT (K:PySem.W.Frag):V→Option Int→Option Int→Hp→VK→Prop:=fun x lo hi H Q=>∃ a xs,x=.ref a∧SqT K H a xs ∧
  ¬ (HT.sIx xs.length 0 lo=0∧HT.sIx xs.length xs.length hi=xs.length)∧∀ p,H p=none→Q (.ref p) (upd H p (.tup (cutV xs lo hi)))
theorem sl_tup:SlR X (rSlT X.K):=by
  intro pins s σ H x v vl vu lo hi sl Q I rx hs pl pu h
  obtain ⟨a,xs,rfl,hx,hw,q⟩:=h
  cases rx
  obtain ⟨its,r,ht,hz⟩:=I.tuple hx
  have hlen:its.toArray.size=xs.length:=by rw [List.size_toArray];exact r.length.symm
  refine ⟨"tuple", _,PyProof.Rows.slot_tuple_getitem.lookup,ht.typeIs,?_⟩
  refine HT.getItem_tuple_cut ht hs pl pu (by rw [hlen];exact hw) ?_ (by rw [hlen];exact hz)
  rw [hlen]
  refine ⟨.ref s.heap.objs.size,_,I.laid (t':=s.toks) (o:=.tup (cutV xs lo hi)) (fun b ob q=>Heap.get?_push_of_some _ q) (Nat.le_refl _) ?_,rfl,q _ (I.hok.fresh (Nat.le_refl _))⟩
  exact ⟨Nat.le_trans (cutV_length xs lo hi) hz,_,(r.drop (HT.sIx xs.length 0 lo)).take (HT.sIx xs.length xs.length hi - HT.sIx xs.length 0 lo),IsTup.new _ _⟩
def rCatT (K:PySem.W.Frag):R2:=fun x y H Q=>∃ a b xs ys,x=.ref a∧y=.ref b∧SqT K H a xs∧SqT K H b ys∧xs≠[]∧xs.length + ys.length≤sizeLine ∧
  (ys=[]→Q (.ref a) H)∧(ys≠[]→∀ p,H p=none→Q (.ref p) (upd H p (.tup (xs ++ ys))))
theorem Vals.nil_iff {xs:List V} {us:List Value} (r:Vals xs us):us=[] ↔ xs=[]:=by
  cases r with
  | nil=>simp
  | cons _ _=>simp
theorem op_catT:OpR X (binaryOp .Add) (rCatT X.K):=by
  intro pins s σ H x y v u Q I rx ry h
  obtain ⟨a,b,xs,ys,rfl,rfl,ha,hb,hx,hz,q1,q2⟩:=h
  cases rx
  cases ry
  obtain ⟨its,r1,p1,_⟩:=I.tuple ha
  obtain ⟨its2,r2,p2,_⟩:=I.tuple hb
  refine HT.cat_tup p1 p2 (fun z=>hx (r1.nil_iff.mp z)) (fun z=>⟨.ref a,H,I,rfl,q1 (r2.nil_iff.mp z)⟩) (fun z=>?_) (by rw [← r1.length,← r2.length];exact hz)
  refine ⟨.ref s.heap.objs.size,_,I.laid (t':=s.toks) (o:=.tup (xs ++ ys)) (fun b ob q=>Heap.get?_push_of_some _ q) (Nat.le_refl _) ?_,rfl,q2 (fun w=>z (r2.nil_iff.mpr w)) _ (I.hok.fresh (Nat.le_refl _))⟩
  exact ⟨by rw [List.length_append];exact hz,_,r1.append r2,IsTup.new _ _⟩
end
end L2
namespace L2
open PySem PySem.Spec PyProof.Rows
def ixN (n:Nat) (i:Int):Option Nat:=if 0≤i then (if i < n then some i.toNat else none) else if -(n:Int)≤i then some (i + n).toNat else none
def atI {α:Type} (xs:List α) (i:Int):Option α:=(ixN xs.length i).bind fun j=>xs[j]?
theorem ixN_seq {n:Nat} {i:Int} {j:Nat} (h:ixN n i=some j):seqIndex? i n=some j∧j < n∧-(n:Int)≤i∧i < n:=by
  unfold ixN at h
  by_cases h0:0≤i
  · rw [if_pos h0] at h
    by_cases h1:i < n
    · rw [if_pos h1] at h
      have e:i.toNat=j:=Option.some.inj h
      exact ⟨by rw [seqIndex_of h0 h1,e],by omega,by omega,h1⟩
    · rw [if_neg h1] at h;cases h
  · rw [if_neg h0] at h
    by_cases h1:-(n:Int)≤i
    · rw [if_pos h1] at h
      have e:(i + n).toNat=j:=Option.some.inj h
      exact ⟨by rw [seqIndex_neg (by omega) h1,e],by omega,h1,by omega⟩
    · rw [if_neg h1] at h;cases h
theorem atI_get {α:Type} {xs:List α} {i:Int} {v:α} (h:atI xs i=some v):∃ j,seqIndex? i xs.length=some j∧xs[j]?=some v∧j < xs.length∧-(xs.length:Int)≤i∧i < xs.length:=by
  unfold atI at h
  cases e:ixN xs.length i with
  | none=>rw [e] at h;cases h
  | some j =>
    rw [e] at h
    obtain ⟨h1,h2,h3,h4⟩:=ixN_seq e
    exact ⟨j,h1,h,h2,h3,h4⟩
theorem atI_nat {α:Type} {xs:List α} {j:Nat} {v:α} (h:xs[j]?=some v):atI xs (j:Int)=some v:=by
  have hj:j < xs.length:=(List.getElem?_eq_some_iff.mp h).1
  have e:ixN xs.length (j:Int)=some j:=by
    unfold ixN
    rw [if_pos (by omega),if_pos (by omega)];simp
  unfold atI;rw [e];exact h
def PlainIx (b:Expr):Prop:=∀ o i,subscripted b false o i=operate [o,i] (getItem o i)
def IxR (X:Cx) (r:R2):Prop :=
  ∀ (value slice:Expr) (pins:List (Addr × Obj)) (s:Shared) (σ:St) (H:Hp) (x y:V) (v u:Value) (Q:VK),Inv X pins σ H s→RelV x v→RelV y u→r x y H Q →
    subscripted slice false v u=operate [v,u] (getItem v u)→wpAny (model X.prog X.w) X.A (subscriptTail value slice v u) (EP X pins σ Q) X.xe s
def MtR (X:Cx) (id:String) (r:V→List V→Hp→VK→Prop):Prop :=
  ∀ (pins:List (Addr × Obj)) (s:Shared) (σ:St) (H:Hp) (x:V) (xs:List V) (v:Value) (us:List Value) (Q:VK),Inv X pins σ H s→RelV x v→Vals xs us→r x xs H Q →
    wpAny (model X.prog X.w) X.A (call (.builtin id) (v :: us)) (EP X pins σ Q) X.xe s
section
variable {X:Cx} {a b:Expr} {ta tb:TE} {pos:Pos}
theorem pe_ix {r:R2} (hr:IxR X r) (ha:PE X a ta) (hb:PE X b tb) (hs:PlainIx b):PE X (.Subscript a b pos) (tOp r ta tb):=by
  intro pins s σ H Q I h
  exact Subscript_ (binT ha hb I h fun v u s2 x y H2 I2 rx ry q=>hr a b pins s2 σ H2 x y v u Q I2 rx ry q (hs _ _))
def rIxL (K:PySem.W.Frag):R2:=fun x y H Q=>∃ p xs i v,x=.ref p∧y=.int i∧SqL K H p xs∧atI xs i=some v∧Q v H
def rIxT (K:PySem.W.Frag):R2:=fun x y H Q=>∃ p xs i v,x=.ref p∧y=.int i∧SqT K H p xs∧atI xs i=some v∧Q v H
def rIxS:R2:=fun x y H Q=>∃ z i c,x=.str z∧y=.int i∧z.length≤sizeLine∧atI z.cps.toList i=some c∧Q (.str ⟨#[c]⟩) H
theorem ix_list:IxR X (rIxL X.K):=by
  intro value slice pins s σ H x y v u Q I rx ry h hs
  obtain ⟨p,xs,i,z,rfl,rfl,hq,he,q⟩:=h
  cases rx
  obtain ⟨t,rfl⟩:=ry
  obtain ⟨its,r,pl,hz⟩:=I.list hq
  obtain ⟨j,h1,h2,h3,h4,h5⟩:=atI_get he
  obtain ⟨w,ew,rw'⟩:=r.get h2
  have hl:=r.length
  have hn:=line63
  have fin:EP X pins σ Q w s:=⟨z,H,I,rw',q⟩
  by_cases h0:0≤i
  · have hj:i.toNat=j:=by
      rw [seqIndex_of h0 h5] at h1
      exact Option.some.inj h1
    exact item_listR pl.isList h0 (by omega) (by rw [hj];simpa using ew) fin hs
  · have hj:(i + (its.toArray.size:Int)).toNat=j:=by
      rw [seqIndex_neg (by omega) h4] at h1
      rw [List.size_toArray,← hl]
      exact Option.some.inj h1
    exact subscriptTail_builtinR (x:=w) pl.isList.typeIs slot_list_getitem.lookup
      (wpAny_getItem_list_neg (Q:=fun r s'=>r=w∧EP X pins σ Q r s') pl.isList (by omega) (by rw [List.size_toArray] <;> omega) (by omega) (by rw [hj];simpa using ew) ⟨rfl,fin⟩) hs
theorem ix_tup:IxR X (rIxT X.K):=by
  intro value slice pins s σ H x y v u Q I rx ry h hs
  obtain ⟨p,xs,i,z,rfl,rfl,hq,he,q⟩:=h
  cases rx
  obtain ⟨t,rfl⟩:=ry
  obtain ⟨its,r,pl,hz⟩:=I.tuple hq
  obtain ⟨j,h1,h2,h3,h4,h5⟩:=atI_get he
  obtain ⟨w,ew,rw'⟩:=r.get h2
  have hl:=r.length
  have hn:=line63
  have fin:EP X pins σ Q w s:=⟨z,H,I,rw',q⟩
  exact subscriptTail_builtinR (x:=w) pl.typeIs slot_tuple_getitem.lookup
    (getItem_tuple (j:=j) (Q:=fun r s'=>r=w∧EP X pins σ Q r s') pl (by omega) (by omega) (by rw [List.size_toArray,← hl];exact h1) (by simpa using ew) ⟨rfl,fin⟩) hs
theorem ix_str:IxR X rIxS:=by
  intro value slice pins s σ H x y v u Q I rx ry h hs
  obtain ⟨z,i,c,rfl,rfl,hz,he,q⟩:=h
  obtain ⟨t,rfl⟩:=rx
  obtain ⟨t',rfl⟩:=ry
  obtain ⟨j,h1,h2,h3,h4,h5⟩:=atI_get he
  have hl:z.cps.toList.length=z.length:=by simp [Str.length]
  rw [hl] at h1 h4 h5
  have hn:=line63
  exact tail_any (typeIs_str s z t) slot_str_getitem.lookup (getItem_str (c:=c) (by
    have e1:decide (i < -(2 ^ 63:Int))=false:=decide_eq_false (by omega)
    have e2:decide (i ≥ 2 ^ 63)=false:=decide_eq_false (by omega)
    rw [e1,e2,Bool.or_false]) (by rw [h1];simpa using h2) ⟨.str ⟨#[c]⟩,H,I.tok _,⟨_,rfl⟩,q⟩) hs
theorem mapSeq_set (its:List Value) (n j:Nat) (u:Value):Obj.mapSeq (·.setIfInBounds j u) { cls:=.type "list", data:=.seq its.toArray n }={ cls:=.type "list", data:=.seq (its.set j u).toArray n }:=by
  simp [Obj.mapSeq]
theorem Inv.lst {pins:List (Addr × Obj)} {σ:St} {H:Hp} {s:Shared} {p:Addr} {xs:List V} (I:Inv X pins σ H s) (h:H p=some (.lst xs)) :
    ∃ (its:List Value) (n:Nat),Vals xs its∧s.heap.get? p=some { cls:=.type "list", data:=.seq its.toArray n }∧xs.length≤sizeLine:=by
  obtain ⟨z,its,n,r,e⟩:=I.hok p _ h
  exact ⟨its,n,r,e,z⟩
theorem Inv.lstUpd {pins:List (Addr × Obj)} {σ:St} {H:Hp} {s:Shared} {p:Addr} {xs ys:List V} {its its':List Value} {n n':Nat} {f:Obj→Obj} (I:Inv X pins σ H s) (h:H p=some (.lst xs))
    (ho:s.heap.get? p=some { cls:=.type "list", data:=.seq its.toArray n }) (hf:f { cls:=.type "list", data:=.seq its.toArray n }={ cls:=.type "list", data:=.seq its'.toArray n' }) (r:Vals ys its') (hz:ys.length≤sizeLine) (t:Nat) :
    Inv X pins σ (upd H p (.lst ys)) { s with heap:=s.heap.update p f,toks:=t }:=by
  have e:(s.heap.update p f).get? p=some { cls:=.type "list", data:=.seq its'.toArray n' }:=by
    rw [Heap.get?_update_self f ho (by rw [hf] <;> rfl),hf]
  refine I.write (x:=p) (e:=p) (by rw [h];trivial) (.inl rfl) (fun b u hb q=>(Heap.get?_update_other _ _ (Ne.symm hb)).trans q) ⟨_,e⟩ ?_
  exact ⟨hz,its',n',r,e⟩
def rSetL:V→V→V→Hp→(Hp→Prop)→Prop:=fun o i v H Q=>∃ p xs k j,o=.ref p∧i=.int k∧H p=some (.lst xs)∧ixN xs.length k=some j∧Q (upd H p (.lst (xs.set j v)))
theorem set_list:PSet X rSetL:=by
  intro pins s σ H o i v ov iv u Q I ro ri rv h
  obtain ⟨p,xs,k,j,rfl,rfl,hp,hj,q⟩:=h
  cases ro
  obtain ⟨t,rfl⟩:=ri
  obtain ⟨its,n,r,ho,hz⟩:=I.lst hp
  obtain ⟨h1,h2,h3,h4⟩:=ixN_seq hj
  have hl:=r.length
  have hn:=line63
  have I':Inv X pins σ (upd H p (.lst (xs.set j v))) { s with heap:=s.heap.update p (Obj.mapSeq (·.setIfInBounds j u)) } :=
    I.lstUpd hp ho (mapSeq_set its n j u) (r.set rv j) (by rw [List.length_set];exact hz) s.toks
  by_cases h0:0≤k
  · have hk:k.toNat=j:=by
      rw [seqIndex_of h0 h4] at h1
      exact Option.some.inj h1
    exact PySem.W.ki_setAt ho h0 (by omega) (by rw [List.size_toArray,← hl];exact h4) (by rw [hk];exact ⟨_,I',q⟩)
  · have hk:(k + (its.toArray.size:Int)).toNat=j:=by
      rw [seqIndex_neg (by omega) h3] at h1
      rw [List.size_toArray,← hl]
      exact Option.some.inj h1
    exact PySem.W.ki_setBack ho (by omega) (by rw [List.size_toArray,← hl];exact h3) (by omega) (by rw [hk];exact ⟨_,I',q⟩)
theorem slice_bounds (lo hi:Option Int) (n:Nat):(sliceBounds lo hi none n).1=((HT.sIx n 0 lo:Nat):Int)∧(sliceBounds lo hi none n).2.1=((HT.sIx n n hi:Nat):Int)∧(sliceBounds lo hi none n).2.2=1:=by
  refine ⟨?_,?_,rfl⟩
  · cases lo with
    | none=>simp [sliceBounds,HT.sIx]
    | some i =>
      simp only [sliceBounds,HT.sIx,Option.getD_none,show (1:Int) > 0 by decide,if_true]
      by_cases h:i < 0
      · simp only [h,if_true] <;> omega
      · simp only [h,if_false] <;> omega
  · cases hi with
    | none=>simp [sliceBounds,HT.sIx]
    | some i =>
      simp only [sliceBounds,HT.sIx,Option.getD_none,show (1:Int) > 0 by decide,if_true]
      by_cases h:i < 0
      · simp only [h,if_true] <;> omega
      · simp only [h,if_false] <;> omega
theorem slicePick_cut (its:List Value) (lo hi:Option Int):slicePick its.toArray lo hi none=((its.drop (HT.sIx its.length 0 lo)).take (HT.sIx its.length its.length hi - HT.sIx its.length 0 lo)).toArray:=by
  obtain ⟨h1,h2,h3⟩:=slice_bounds lo hi its.toArray.size
  unfold slicePick
  rw [h1,h2,h3]
  simp only [sliceRange_one,pick_run,List.size_toArray] <;> rfl
def rSlL (K:PySem.W.Frag):V→Option Int→Option Int→Hp→VK→Prop:=fun x lo hi H Q=>∃ a xs,x=.ref a∧SqL K H a xs∧∀ p,H p=none→Q (.ref p) (upd H p (.lst (cutV xs lo hi)))
theorem sl_list:SlR X (rSlL X.K):=by
  intro pins s σ H x v vl vu lo hi sl Q I rx hs pl pu h
  obtain ⟨a,xs,rfl,hx,q⟩:=h
  cases rx
  obtain ⟨its,r,ht,hz⟩:=I.list hx
  have hlen:=r.length
  refine ⟨"list", _,slot_list_getitem.lookup,ht.isList.typeIs,?_⟩
  refine wpAny_getItem_list_slice ht.isList hs pl pu .none (by simp) ?_ (by rw [List.size_toArray] <;> omega)
  rw [slicePick_cut,← hlen]
  refine ⟨.ref s.heap.objs.size,_,I.laid (t':=s.toks) (o:=.lst (cutV xs lo hi)) (fun b ob q=>Heap.get?_push_of_some _ q) (Nat.le_refl _) ?_,rfl,q _ (I.hok.fresh (Nat.le_refl _))⟩
  exact ⟨Nat.le_trans (cutV_length xs lo hi) hz,_,0,(r.drop (HT.sIx xs.length 0 lo)).take (HT.sIx xs.length xs.length hi - HT.sIx xs.length 0 lo),Heap.get?_push_size _ rfl⟩
theorem call_len_seq:CallR X (.builtin "len") (fun xs H Q=>∃ p ys,xs=[.ref p]∧(SqL X.K H p ys∨SqT X.K H p ys)∧Q (.int ys.length) H):=by
  intro pins s σ H xs us Q I r h
  obtain ⟨p,ys,rfl,hq,q⟩:=h
  obtain ⟨u,rfl,rx⟩:=vals1 r
  cases rx
  have hn:=line63
  rcases hq with hq | hq
  · obtain ⟨its,r',pl,hz⟩:=I.list hq
    have hlen:=r'.length
    exact Calls.call_len_list pl.isList (by simp only [List.size_toArray] <;> omega) ⟨.int ys.length,H,I.tok _,⟨s.toks + 1,by rw [List.size_toArray,hlen]⟩,q⟩
  · obtain ⟨its,r',pl,hz⟩:=I.tuple hq
    have hlen:=r'.length
    exact len_tuple pl (by simp only [List.size_toArray] <;> omega) ⟨.int ys.length,H,I.tok _,⟨s.toks + 1,by rw [List.size_toArray,hlen]⟩,q⟩
theorem call_tuple_of:CallR X (.type "tuple") (fun xs H Q=>∃ p ys,xs=[.ref p]∧((SqL X.K H p ys∧∀ l,H l=none→Q (.ref l) (upd H l (.tup ys)))∨(SqT X.K H p ys∧Q (.ref p) H))):=by
  intro pins s σ H xs us Q I r h
  obtain ⟨p,ys,rfl,h⟩:=h
  obtain ⟨u,rfl,rx⟩:=vals1 r
  cases rx
  rcases h with ⟨hq,q⟩ | ⟨hq,q⟩
  · obtain ⟨its,r',pl,hz⟩:=I.list hq
    have hlen:=r'.length
    refine call_tuple_list pl.isList (fun h' kp=>?_) (by simp only [List.size_toArray] <;> omega)
    have I1:Inv X pins σ H { s with heap:=h' }:=I.kept (t':=s.toks) kp
    have I2:Inv X pins σ (upd H h'.objs.size (.tup ys)) { s with heap:=h'.push { cls:=.type "tuple", data:=.seq its.toArray } } :=
      I1.laid (t':=s.toks) (fun b o e=>Heap.get?_push_of_some _ e) (Nat.le_refl _) (show ObjOk X.prog X.w _ _ _ (.tup ys) from ⟨hz,its,r',IsTup.new _ _⟩)
    exact ⟨.ref h'.objs.size,_,I2,rfl,q _ (I1.hok.fresh (Nat.le_refl _))⟩
  · obtain ⟨its,r',pl,hz⟩:=I.tuple hq
    exact call_tuple_same pl ⟨.ref p,H,I,rfl,q⟩
def tyV (K:PySem.W.Frag) (T:String) (x:V) (H:Hp):Prop:=match x with
  | .str _=>T = "str"
  | .int _=>T = "int"
  | .ref p=>(T = "list" ∧ ∃ xs,SqL K H p xs)∨(T = "tuple" ∧ ∃ o,K.lookup p=some o∧o.cls=.type "tuple" ∧ o.dict=none) ∨
      (T = "dict" ∧ ((∃ kvs,H p=some (.dK kvs))∨∃ kvs,H p=some (.dT kvs)))∨(T = "set" ∧ ∃ S n,H p=some (.set S n))
  | _=>False
theorem tyV_is {pins:List (Addr × Obj)} {σ:St} {H:Hp} {s:Shared} {T:String} {x:V} {v:Value} (I:Inv X pins σ H s) (r:RelV x v) (ty:tyV X.K T x H) :
    s.TypeIs v T∧∀ a,v=.ref a→∃ ob,s.heap.get? a=some ob∧ob.dict=none:=by
  cases x with
  | str z =>
    obtain ⟨t,rfl⟩:=r
    cases (show T = "str" from ty)
    exact ⟨typeIs_str s z t,fun _ e=>nomatch e⟩
  | int i =>
    obtain ⟨t,rfl⟩:=r
    cases (show T = "int" from ty)
    exact ⟨typeIs_int s i t,fun _ e=>nomatch e⟩
  | ref p =>
    cases r
    rcases ty with ⟨rfl,xs,hq⟩ | ⟨rfl,o,hk,hc,hd⟩ | ⟨rfl,hk⟩ | ⟨rfl,S,n,hk⟩
    · obtain ⟨its,_,pl,_⟩:=I.list hq
      refine ⟨pl.isList.typeIs,fun a e=>?_⟩
      cases e
      obtain ⟨o,n,e,c,hd,_⟩:=pl
      exact ⟨o,e,hd⟩
    · refine ⟨⟨o,I.kIn p o hk,hc⟩,fun a e=>?_⟩
      cases e
      exact ⟨o,I.kIn _ o hk,hd⟩
    · have z:∃ o,s.heap.get? p=some o∧o.ExactDict:=by
        rcases hk with ⟨kvs,hk⟩ | ⟨kvs,hk⟩
        · obtain ⟨_,_,_,_,o,_,_,e,ex,_⟩:=I.hok p _ hk
          exact ⟨o,e,ex⟩
        · obtain ⟨_,_,_,_,o,_,_,e,ex,_⟩:=I.hok p _ hk
          exact ⟨o,e,ex⟩
      obtain ⟨o,e,ex⟩:=z
      refine ⟨⟨o,e,ex.1⟩,fun a e2=>?_⟩
      cases e2
      exact ⟨o,e,ex.2.1⟩
    · obtain ⟨o,_,_,_,e,ex,_⟩:=I.hok p _ hk
      refine ⟨⟨o,e,ex.1⟩,fun a e2=>?_⟩
      cases e2
      exact ⟨o,e,ex.2.1⟩
  | _=>exact False.elim ty
def tBM0 (K:PySem.W.Frag) (T:String) (r:V→List V→Hp→VK→Prop) (to:TE):TE:=fun σ H Q=>to σ H fun x H1=>tyV K T x H1∧r x [] H1 Q
def tBM (K:PySem.W.Frag) (T:String) (r:V→List V→Hp→VK→Prop) (to:TE) (t:TA):TE:=fun σ H Q=>to σ H fun x H1=>tyV K T x H1∧t σ H1 fun xs H2=>r x xs H2 Q
variable {o e:Expr} {es:List Expr} {to:TE} {t:TA} {name:Str} {apos cpos:Pos} {T id:String} {r:V→List V→Hp→VK→Prop}
theorem pe_bm0 (pa:PlainAttrs T) (slot:Slot T name id) (hty:typeOf (.builtin id)=pure (.type "method_descriptor")) (hm:MtR X id r) (ho:PE X o to)
    (hbase:attributeBase o name X.env (eval o X.env)=eval o X.env:=by rfl) (hline:(apos.endLine == cpos.line)=true:=by rfl):PE X (.Call (.Attribute o name apos) [] [] cpos) (tBM0 X.K T r to):=by
  intro pins s σ H Q I h
  refine wpAny_Call_method0_late hbase hline (thn (ho pins s σ H _ I h) fun v s1 ⟨x,H1,I1,r1,ty,q1⟩=>?_)
  obtain ⟨h1,h2⟩:=tyV_is I1 r1 ty
  exact ⟨T,id,pa,slot,hty,h1,h2,Calls.callWith_builtin rfl (PySem.evalArgs_none (hm pins s1 σ H1 x [] v [] Q I1 r1 .nil q1))⟩
theorem pe_bm (pa:PlainAttrs T) (slot:Slot T name id) (hty:typeOf (.builtin id)=pure (.type "method_descriptor")) (hm:MtR X id r) (ho:PE X o to) (ha:PA X (e :: es) t)
    (hbase:attributeBase o name X.env (eval o X.env)=eval o X.env:=by rfl)
    (hfew:((backTo cpos (starEach (e :: es) X.env)).all (fun x=>!x.1) && (backToKw cpos (keywordEach [] X.env)).all (fun x=>x.1.isSome)
      && decide ((e :: es).length + ([]:List Keyword).length + (if ([]:List Keyword).isEmpty then 0 else 1) < 30))=true:=by rfl)
    (hline:(apos.endLine == cpos.line)=true:=by rfl) (hs:starEach (e :: es) X.env=(false,eval e X.env) :: starEach es X.env:=by rfl) (hplain:(backTo cpos (starEach es X.env)).any (·.1)=false:=by rfl) :
    PE X (.Call (.Attribute o name apos) (e :: es) [] cpos) (tBM X.K T r to t):=by
  intro pins s σ H Q I h
  refine wpAny_Call_method_late hbase hfew hline rfl (thn (ho pins s σ H _ I h) fun v s1 ⟨x,H1,I1,r1,ty,q1⟩=>?_)
  obtain ⟨h1,h2⟩:=tyV_is I1 r1 ty
  refine ⟨T,id,pa,slot,hty,h1,h2,?_⟩
  have hA:=ha cpos pins s1 σ H1 _ I1 q1
  rw [hs] at hA ⊢
  refine Calls.callWith_builtin (by show (false || (backTo cpos (starEach es X.env)).any (·.1))=false;rw [hplain] <;> rfl) (Calls.evalArgs_plain ?_)
  exact thn hA fun us s2 ⟨vs,H2,I2,r2,q2⟩=>hm pins s2 σ H2 x vs v us Q I2 r1 r2 q2
/- xs.append(e),list.index on a module's tuple .. are MtR facts of 06m -/
end
end L2
namespace L2
open PySem PySem.Spec PyProof.Rows
def MtM (X:Cx) (id:String) (r:V→List V→Hp→VK→Prop):Prop :=
  ∀ (pins:List (Addr × Obj)) (s:Shared) (σ:St) (H:Hp) (x:V) (xs:List V) (v:Value) (us:List Value) (Q:VK),Inv X pins σ H s→RelV x v→Vals xs us→r x xs H Q →
    wpAny (model X.prog X.w) X.A (call (.builtin id) (v :: us)) (EP X pins σ Q) X.xe s
theorem Vals.one:∀ {x:V} {us:List Value},Vals [x] us→∃ u,us=[u]∧RelV x u
  | _,_,.cons r .nil=>⟨_,rfl,r⟩
theorem Vals.two:∀ {x y:V} {us:List Value},Vals [x,y] us→∃ u v,us=[u,v]∧RelV x u∧RelV y v
  | _,_,_,.cons r (.cons q .nil)=>⟨_,_,rfl,r,q⟩
theorem Vals.zero:∀ {us:List Value},Vals [] us→us=[]
  | _,.nil=>rfl
theorem Vals.dropLast {xs:List V} {us:List Value} (h:Vals xs us):Vals xs.dropLast us.dropLast:=by
  induction h with
  | nil=>exact .nil
  | cons r t ih =>
    cases t with
    | nil=>exact .nil
    | cons q t'=>exact .cons r ih
theorem erase_last {α:Type} (l:List α):l.eraseIdx (l.length - 1)=l.dropLast:=by
  induction l with
  | nil=>rfl
  | cons a r ih =>
    cases r with
    | nil=>rfl
    | cons b r =>
      have e:(a :: b :: r).length - 1=((b :: r).length - 1)+1:=by
        have h1:(a :: b :: r).length=r.length + 2:=rfl
        have h2:(b :: r).length=r.length + 1:=rfl
        omega
      rw [e,List.eraseIdx_cons_succ,ih]
      all_goals rfl
section
variable {X:Cx} {pins:List (Addr × Obj)} {σ:St} {H:Hp} {s:Shared} {l b:Addr} {xs ys zs:List V}
theorem Inv.lset {its its':List Value} {n:Nat} {f:Array Value→Array Value} {t':Nat} (I:Inv X pins σ H s) (hH:H l=some (.lst xs))
    (e:s.heap.get? l=some { cls:=.type "list", data:=.seq its.toArray n }) (hf:f its.toArray=its'.toArray) (hv:Vals ys its') (hz:ys.length≤sizeLine) :
    Inv X pins σ (upd H l (.lst ys)) { s with heap:=s.heap.update l (Obj.mapSeq f),toks:=t' }:=by
  have q:=PySem.IsL.update e f
  rw [hf] at q
  refine I.write (x:=l) (e:=l) (by rw [hH];exact trivial) (.inl rfl) (fun b' u hb hu=>(Heap.get?_update_other s.heap (Obj.mapSeq f) (Ne.symm hb)).trans hu) ⟨_,q⟩ ?_
  exact ⟨hz,its',_,hv,q⟩
theorem Inv.lnew {its:List Value} {t':Nat} (I:Inv X pins σ H s) (hv:Vals ys its) (hz:ys.length≤sizeLine) :
    Inv X pins σ (upd H s.heap.objs.size (.lst ys)) { s with heap:=s.heap.push { cls:=.type "list", data:=.seq its.toArray },toks:=t' } :=
  I.laid (fun _ _ q=>Heap.get?_push_of_some _ q) (Nat.le_refl _) ⟨hz,its,0,hv,Heap.get?_push_size _ rfl⟩
theorem Inv.fresh (I:Inv X pins σ H s):H s.heap.objs.size=none:=I.hok.fresh (Nat.le_refl _)
theorem Inv.lstM (I:Inv X pins σ H s) (hH:H l=some (.lst xs)):xs.length≤sizeLine∧∃ (its:List Value) (n:Nat),Vals xs its∧xs.length=its.length∧s.heap.get? l=some { cls:=.type "list", data:=.seq its.toArray n }:=by
  obtain ⟨z,its,n,r,e⟩:=I.hok l _ hH
  exact ⟨z,its,n,r,r.length,e⟩
theorem notLongL {n:Nat} (h:n≤sizeLine):Builtin.List.listTooLong n=false:=by
  unfold Builtin.List.listTooLong
  exact decide_eq_false (by omega)
end
section
variable {X:Cx}
def rAppend:V→List V→Hp→VK→Prop:=fun x vs H Q=>∃ l xs y,x=.ref l∧vs=[y]∧H l=some (.lst xs)∧xs.length < sizeLine∧Q .non (upd H l (.lst (xs ++ [y])))
theorem mt_append:MtM X "list.append" rAppend:=by
  intro pins s σ H x vs v us Q I rx rv h
  obtain ⟨l,xs,y,rfl,rfl,hH,hz,q⟩:=h
  cases rx
  obtain ⟨u,rfl,ru⟩:=rv.one
  obtain ⟨z,its,n,r,hl,e⟩:=I.lstM hH
  refine call_meets F.slot_list_append ⟨_,e,rfl⟩ F.entry_list_append (F.args_list_append_2 _ _) (PySem.list_append l its.toArray n u (by rw [List.size_toArray];omega)) ⟨e,?_⟩
  refine ⟨.non,_,I.lset (its':=its ++ [u]) hH e (by simp) (r.append (.cons ru .nil)) ?_,rfl,q⟩
  rw [List.length_append,List.length_singleton]
  omega
def rExtend:V→List V→Hp→VK→Prop:=fun x vs H Q=>∃ l b xs zs,x=.ref l∧vs=[.ref b]∧H l=some (.lst xs)∧H b=some (.lst zs)∧xs.length + zs.length≤sizeLine∧Q .non (upd H l (.lst (xs ++ zs)))
theorem mt_extend:MtM X "list.extend" rExtend:=by
  intro pins s σ H x vs v us Q I rx rv h
  obtain ⟨l,b,xs,zs,rfl,rfl,hH,hB,hz,q⟩:=h
  cases rx
  obtain ⟨u,rfl,ru⟩:=rv.one
  cases ru
  obtain ⟨z,its,n,r,hl,e⟩:=I.lstM hH
  obtain ⟨z2,its2,n2,r2,hl2,e2⟩:=I.lstM hB
  have hsz:its.toArray.size + its2.toArray.size≤sizeLine:=by rw [List.size_toArray,List.size_toArray];omega
  have hlong:¬ (!its.toArray.isEmpty && Builtin.List.listTooLong (its.toArray.size + its2.toArray.size))=true:=by
    rw [notLongL hsz,Bool.and_false]
    exact Bool.false_ne_true
  refine call_meets F.slot_list_extend ⟨_,e,rfl⟩ F.entry_list_extend (F.args_list_extend_2 _ _)
    (AutoSeq1.list_extend_list_list_0 l its.toArray n b its2.toArray n2 hlong (by rw [List.size_toArray];omega) (by omega)) ⟨e,e2,?_⟩
  refine ⟨.non,_,I.lset (its':=its ++ its2) hH e (by simp) (r.append r2) ?_,rfl,q⟩
  rw [List.length_append]
  omega
def rPop:V→List V→Hp→VK→Prop:=fun x vs H Q=>∃ l xs y,x=.ref l∧vs=[]∧H l=some (.lst xs)∧xs[xs.length - 1]?=some y∧Q y (upd H l (.lst xs.dropLast))
theorem mt_pop:MtM X "list.pop" rPop:=by
  intro pins s σ H x vs v us Q I rx rv h
  obtain ⟨l,xs,y,rfl,rfl,hH,hy,q⟩:=h
  cases rx
  have hus:=rv.zero
  subst hus
  obtain ⟨z,its,n,r,hl,e⟩:=I.lstM hH
  obtain ⟨u,hu,ru⟩:=r.get hy
  have hy':its.toArray[its.toArray.size - 1]?=some u:=by
    show its.toArray[its.length - 1]?=some u
    rw [← Array.getElem?_toList,← hl]
    exact hu
  refine call_meets F.slot_list_pop ⟨_,e,rfl⟩ F.entry_list_pop (F.args_list_pop_1 _) (MeetsSeq.list_pop_last l its.toArray n u hy' (by rw [List.size_toArray];omega)) ⟨e,?_⟩
  refine ⟨y,_,I.lset (its':=its.dropLast) hH e ?_ r.dropLast ?_,ru,q⟩
  · show its.toArray.eraseIdxIfInBounds (its.toArray.size - 1)=its.dropLast.toArray
    rw [List.size_toArray,List.eraseIdxIfInBounds_toArray,erase_last]
  · rw [List.length_dropLast]
    omega
end
section
variable {prog:Program} {w:World} {A:Around} {E:Value→Shared→Prop} {s:Shared}
set_option maxRecDepth 100000 in
end
section
variable {X:Cx}
end
end L2
namespace Att
open PySem PySem.W PySem.Calls PyProof.Rows
theorem ints_of_wellAll {P:Params} {h:Heap}:∀ (ns:List Int) (vs:List Value),WellAll P h vs (ns.map WData.int)→IntsAre vs ns:=by
  intro ns
  induction ns with
  | nil =>
    intro vs w
    rw [List.map_nil] at w
    cases w
    exact .nil
  | cons n ns ih =>
    intro vs w
    rw [List.map_cons] at w
    cases w with
    | cons a b =>
      cases a
      exact .cons _ _ (ih _ b)
theorem script_of {l:OpenLaw} {n:Nat} (hn:l.most=some n) {P:Params} {h:Heap} {args:List WData} {vals:List Value}
    (hpre:l.row.toRowW.claim.pre args=true) (hwl:WellAll P h vals args) :
    ∃ a vs ns,vals=[Value.ref a]∧args=[WData.list (ns.map WData.int)]∧h.get? a=some { cls:=.type "list", data:=.seq vs.toArray }∧IntsAre vs ns∧ns.length≤n:=by
  have hsh:WShape.hasAll [] args [.list .int]=true:=(pre_splitW hpre).1
  have hc:l.pre.holds [] { args:=args }=true:=(pre_splitW hpre).2
  obtain ⟨d,r,rfl,h1,h2⟩:=hasAllW_cons hsh
  obtain rfl:=hasAllW_nil h2
  obtain ⟨xs,rfl,h3⟩:=hasW_list h1
  obtain ⟨ns,rfl⟩:=items_int h3
  have hlen:ns.length≤n:=by
    unfold OpenLaw.pre at hc
    have h4:(WTm.not (.lt (.lit (.int (n:Int))) (.len (.arg 0)))).holds [] { args:=[.list (ns.map .int)] }=true:=by
      have h4:=(holds_andW hc).1
      rw [hn] at h4
      exact h4
    have h5:=condW_of h4 (w_not (w_lt w_lit (w_len_list (w_arg rfl))))
    rw [List.length_map] at h5
    refine Nat.le_of_not_lt fun q=>?_
    have q':(n:Int) < ((ns.length:Nat):Int):=by omega
    first
      | (rw [decide_eq_true q'] at h5;exact absurd h5 (by decide))
      | (simp at h5;omega)
  cases hwl with
  | cons w1 w2 =>
    cases w2
    cases w1 with
    | list ho hall=>exact ⟨_,_,ns,rfl,rfl,ho,ints_of_wellAll ns _ hall,hlen⟩
theorem post_true (l:OpenLaw) (args:List WData):l.row.toRowW.claim.post args (.bool true) args=true :=
  postW_of (r:=l.row.toRowW) (X:=(true == true))
    (show WShape.has [] (.bool true) .bool=true by first | rfl | decide | simp [WShape.has,WShape.arms,WShape.armsAll])
    (show (WTm.eq .res (.lit (.bool true))).value [] { args:=args,res:=some (.bool true),after:=args }=some (.bool (true == true)) from w_eq_bool (w_res rfl) w_lit) rfl
theorem attach_call {l:OpenLaw} {n:Nat} {q:Program} {loose:List Str} {XP:(Str→Option Value)→Heap→Prop} {YP:World→Heap→Prop} {d:DefRec}
    (hn:l.most=some n) (hdf:d.params.defaults=[])
    (call:∀ (w:World) (s₀ s₁:Shared) (mg mb:Str→Option Value) (fa:Addr) (o:Obj) (pm cd doc:Value) (a:Addr) (vs:List Value) (ns:List Int),
      Ground q loose [] XP w s₀ mg mb s₁.heap→YP w s₁.heap →
      s₁.heap.get? fa=some o→o.data=.func (docDef d.name d.params d.body d.scope pm cd doc)→s₁.heap.CodeRec cd d.name→mg d.name=some (.ref fa) →
      s₁.heap.get? a=some { cls:=.type "list", data:=.seq vs.toArray }→IntsAre vs ns→ns.length≤n→s₁.gens=#[] →
      codeAny (model l.prog w) callerA (.call (.ref fa) ⟨[.ref a],[]⟩) (fun r s'=>r=.ok (.ret (.bool true))∧OldK s₁.heap s'.heap∧s'.os=s₁.os∧AllBare s'.gens) s₁) :
    WalkO q loose XP YP l.row.toRowW d [] (fun f vs=>PySem.call f vs):=by
  intro w s₀ s₁ mg mb G Y fa o pm cd doc dV kV ho hd hcd hD hmg hg args vals as hpre hlay hrd hwl hlo
  obtain rfl:dV=.none:=Dflts.none hD hdf
  obtain rfl:kV=.none:=Dflts.noKw hD
  obtain ⟨a,vs,ns,rfl,rfl,hobj,hints,hlen⟩:=script_of hn hpre hwl
  refine enter_call (codeAny_mono (call w s₀ s₁ mg mb fa o pm cd doc a vs ns G Y ho (fd_plain hd) hcd hmg hobj hints hlen hg) fun r s' hq=>?_)
  obtain ⟨rfl,h2,h3,h4⟩:=hq
  exact ⟨.inl ⟨.bool true,.bool true,[],rfl,fun _=>rfl,.bool true,post_true l _,fun _=>⟨List.Pairwise.nil,fun _ hm=>(nomatch hm)⟩⟩,h2,h3,h4⟩
section
variable {prog:Program} {w:World} {A:Around} {E:Value→Shared→Prop} {s:Shared} {K:Frag}
def ledger (h:Heap) (L d:Addr):List (Addr × Obj):=(List.range h.objs.size).filterMap fun a=>if a=L∨a=d then none else (h.get? a).map fun o=>(a,o)
end
end Att
namespace L2
open PySem PySem.Spec PyProof.Rows
theorem vals_ints:∀ {vs:List Value} {ns:List Int},IntsAre vs ns→Vals (ns.map V.int) vs
  | _,_,.nil=>.nil
  | _,_,.cons n t h=>.cons ⟨t,rfl⟩ (vals_ints h)
def Only (H:Hp):Prop:=∀ b,H b=none∨∃ o xs,H b=some (.frz o (.lst xs))
theorem law_call {P:Program} {w:World} {K:PySem.W.Frag} {mg mb:Str→Option Value} {CX:CXT} {k:Nat} {fa a:Addr} {fd:FuncData} {x:Str} {sp:Sp} {s₁:Shared} {vs:List Value} {ns:List Int}
    (KX:K.In s₁.heap) (hns:s₁.heap.Ns mainGlobals mg) (hb:s₁.heap.Ns builtinsNs mb) (hbb:∀ x:Str,x ≠ "__name__" → mb x=bootBuiltins x) (hlim:s₁.heap.NoLimit) (hg:s₁.gens=#[])
    (ha:s₁.heap.get? a=some { cls:=.type "list", data:=.seq vs.toArray }) (hi:IntsAre vs ns) (hl:ns.length≤sizeLine) (hr:Room k callerA)
    (F:∀ base:Heap,K.In base→base.Ns mainGlobals mg→FnOk P w K mg base CX k fa fd [x] sp) (hbind:∀ (s:Shared) (u:Value),BindsTo s fd ⟨[u],[]⟩ [(x,u)])
    (hsp:∀ H:Hp,Only H→SqL K H a (ns.map V.int)→sp [.ref a] H (fun v _=>v=.bl true) fun _ _ _=>False)
    (hCX:∀ H e s',CX [] H s₁ (fun _ _ _=>False) e s'→False) :
    codeAny (model P w) callerA (.call (.ref fa) ⟨[.ref a],[]⟩) (fun r s'=>r=.ok (.ret (.bool true))∧OldK s₁.heap s'.heap∧s'.os=s₁.os∧AllBare s'.gens) s₁:=by
  have rv:=vals_ints hi
  have lenV:=hi.length
  have core:∀ H:Hp,Only H→SqL K H a (ns.map V.int)→HOk P w H s₁.heap→(∀ b,H b≠none→b=a)→(H a≠none→K.lookup a=none) →
      codeAny (model P w) callerA (.call (.ref fa) ⟨[.ref a],[]⟩) (fun r s'=>r=.ok (.ret (.bool true))∧OldK s₁.heap s'.heap∧s'.os=s₁.os∧AllBare s'.gens) s₁:=by
    intro H hO hS hok hA hK
    have base_of:∀ {b:Addr} {o:Obj},s₁.heap.get? b=some o→H b=none→(hidT s₁.heap H).get? b=some o:=fun e n=>hidT_get e n
    have noA:∀ {b:Addr} {o:Obj} {es:Array DictEntry} {ep:Nat},s₁.heap.get? b=some o→o.data=.dict es ep→H b=none:=fun {b o es ep} e d=>by
      cases q:H b with
      | none=>rfl
      | some u =>
        have e':b=a:=hA b (by rw [q];simp)
        subst e'
        rw [ha] at e;cases e
        have d':Data.seq vs.toArray _=Data.dict es ep:=d
        cases d'
    have nsK:∀ {b:Addr} {m:Str→Option Value},s₁.heap.Ns b m→(hidT s₁.heap H).Ns b m:=fun {b m} ⟨o,es,ep,e,d,r⟩=>⟨o,es,ep,base_of e (noA e d),d,r⟩
    have hKb:K.In (hidT s₁.heap H):=fun b o e=>base_of (KX b o e) (by
      cases q:H b with
      | none=>rfl
      | some u =>
        have e':b=a:=hA b (by rw [q];simp)
        subst e'
        rw [hK (by rw [q];simp)] at e;cases e)
    have hM:Mod K mg (hidT s₁.heap H):=⟨hKb,nsK hns,⟨mb,nsK hb,hbb⟩,let ⟨mc,h1,h2⟩:=hlim;⟨mc,nsK h1,h2⟩⟩
    have e0:Env0 P w K mg (hidT s₁.heap H) callerA [] s₁ H:=⟨rfl,hM,fun b o e=>of_hidT e,Nat.le_of_eq (hidT_size _ _),trivial,fun b hb=>absurd (show b ∈ ([]:List Addr) from hb) (by simp),hok,.of_eq hg⟩
    refine codeAny_mono ((F _ hKb (nsK hns)).run callerA [] s₁ H ⟨[.ref a],[]⟩ [.ref a] [.ref a] _ _ hr e0 (hbind s₁ (.ref a)) (.cons rfl .nil) (hsp H hO hS)) fun r s' h=>?_
    cases r with
    | error e=>exact (hCX H e s' h).elim
    | ok fl =>
      cases fl with
      | next=>exact False.elim h
      | brk=>exact False.elim h
      | cont=>exact False.elim h
      | ret u =>
        obtain ⟨v,H',os,bare,un,hok',r',q⟩:=h
        have q':v=.bl true:=q
        subst q'
        obtain rfl:u=Value.bool true:=r'
        refine ⟨rfl,OldK.of_keep fun b o e=>?_,os,bare⟩
        cases q:H b with
        | none=>exact un.keep b o e q (by intro z;exact absurd (show b ∈ ([]:List Addr) from z) (by simp)) (by simp)
        | some u =>
          rcases hO b with z | ⟨ob,xs,z⟩
          · rw [q] at z;cases z
          · have z2:=un.frzs b ob _ z
            obtain ⟨e1,_⟩:=hok b _ z
            obtain ⟨e2,_⟩:=hok' b _ z2
            rw [e] at e1;cases e1
            exact e2
  cases hk:K.lookup a with
  | some o =>
    have e:=KX a o hk
    rw [ha] at e
    cases e
    refine core (fun _=>none) (fun _=>.inl rfl) (.inr ⟨_,vs.toArray,_,hk,rfl,rfl,rfl,by rw [List.size_toArray,lenV];exact hl,by simpa using rv⟩) (fun b u z=>by have z':(none:Option HO)=some u:=z;cases z') (fun b z=>absurd rfl z) fun z=>absurd rfl z
  | none =>
    refine core (fun b=>if b=a then some (.frz { cls:=.type "list", data:=.seq vs.toArray } (.lst (ns.map V.int))) else none) (fun b=>?_) (.inl (.inr ⟨{ cls:=.type "list", data:=.seq vs.toArray },if_pos rfl⟩)) (fun b u z=>?_) (fun b z=>?_) fun _=>hk
    · by_cases hb:b=a
      · exact .inr ⟨_,_,if_pos hb⟩
      · exact .inl (if_neg hb)
    · by_cases hb:b=a
      · have z':=(if_pos hb).symm.trans z
        cases z'
        subst hb
        exact ⟨ha,by rw [List.length_map];exact hl,vs,_,rv,ha⟩
      · have z':=(if_neg hb).symm.trans z
        cases z'
    · by_cases hb:b=a
      · exact hb
      · exact absurd (if_neg hb) z
end L2
namespace L2
open PySem PySem.Spec PyProof.Rows
abbrev KOf {K:PySem.W.Frag} {h:Heap} (_:K.In h):PySem.W.Frag:=K
theorem walk_of {l:PySem.W.OpenLaw} {n k:Nat} {q:Program} {loose:List Str} {XP:(Str→Option Value)→Heap→Prop} {YP:World→Heap→Prop} {d:DefRec} {K:Params→PySem.W.Frag} {CX:World→CXT} {sp:World→Sp} {x:Str}
    (hn:l.most=some n) (hn2:n≤sizeLine) (hdf:d.params.defaults=[]) (hr:Room k callerA)
    (hY:∀ (w:World) (h:Heap),YP w h→(K w.params).In h)
    (F:∀ (w:World) (mg:Str→Option Value) (fa:Addr) (h:Heap),(K w.params).In h→h.Ns mainGlobals mg→mg d.name=some (.ref fa) →
      ∃ fd:FuncData,(∀ (s:Shared) (u:Value),BindsTo s fd ⟨[u],[]⟩ [(x,u)]) ∧
        ∀ base:Heap,(K w.params).In base→base.Ns mainGlobals mg→FnOk l.prog w (K w.params) mg base (CX w) k fa fd [x] (sp w))
    (hsp:∀ (w:World) (H:Hp) (a:Addr) (ns:List Int),ns.length≤n→Only H→SqL (K w.params) H a (ns.map V.int)→sp w [.ref a] H (fun v _=>v=.bl true) fun _ _ _=>False)
    (hCX:∀ (w:World) (H:Hp) (s:Shared) (e:Value) (s':Shared),CX w [] H s (fun _ _ _=>False) e s'→False) :
    PySem.W.WalkO q loose XP YP l.row.toRowW d [] (fun f vs=>PySem.call f vs):=by
  refine Att.attach_call hn hdf fun w s₀ s₁ mg mb fa o pm cd doc a vs ns G Y ho hd hcd hmg hobj hints hlen hg=>?_
  have KX:=hY w _ Y
  obtain ⟨fd,hb,hF⟩:=F w mg fa _ KX G.T.g hmg
  exact law_call KX G.T.g G.T.b G.T.builtins G.T.nolimit hg hobj hints (Nat.le_trans hlen hn2) hr hF hb (fun H hO hS=>hsp w H a ns hlen hO hS) fun H e s'=>hCX w H s₁ e s'
end L2
/- THE LAST THEOREM (shape;LID,My.* are yours):
   My.Adr: a structure of the addresses that your layer names (classes,functions);My.Txt K t: a structure (Prop) of the equations over K;
   My.txt_mk:{K} {implicit addresses ..} (e1:nsIn K mainGlobals "law" = some (some (.ref f))) (e2:K.lookup f=some ⟨oc,od,.func (fnOf "law" "law" params body scope dV kV doc pm an cdv ct),sl⟩) (e3:codeIn K cdv "law" = true) .. : ∃ t,My.Txt K t
set_option maxRecDepth 100000 in
set_option maxHeartbeats 0 in
theorem PySem.Challenge.cw_LID_holds : PySem.Challenge.rw_LID.Holds := by
  w_on;o_law;k_head;(case hw=>w_witness2)
  k_fill
  refine L2.walk_of (l:=PySem.Challenge.rw_LID) (n:=63) (k:=40) (x:="script") (CX:=fun w=>..) (sp:=fun _=>My.sp_law) rfl (by decide) rfl ⟨rfl,by decide,by decide⟩ (fun w h Y=>PySem.W.kIn_of Y) ?F ?S ?C
  case F =>
    intro w mg fa h KX G hmg
    have T:∃ t,My.Txt (L2.KOf KX) t:=by
      dsimp only [L2.KOf]                          -- K must stand as «<heap const> w.params» for k_is
      refine' My.txt_mk ?e1 ?e2 ?e3 ..
      (case e1=>PySem.W.k_is)                    -- in the order: a name -> its address -> its object -> its parts
      (case e2=>PySem.W.k_is)
      ..
    obtain ⟨t,T⟩:=T
    have e0:=hmg.symm.trans (PySem.W.mg_of KX G T.law)
    cases e0                                       -- fa is the law's own address
    exact ⟨_,fun s u=>.of_eq rfl,fun base kb nb=>My.law_fn T kb nb⟩     -- if «.of_eq rfl» comes too early: refine' ⟨_,?b,fun base kb nb=>My.law_fn T kb nb⟩;exact fun s u=>.of_eq rfl
  case S=>exact fun w H a ns hl hO hS=>..
  case C=>exact ..
(the tactic k_is has no namespace: write k_is) -/
namespace L2
open PySem PySem.Spec PyProof.Rows
def defArgs (s:Stmt):Arguments:=match s with
  | .FunctionDef _ a _ _ _ _ _ _ _ _=>a
  | _=>{ posonlyargs:=[],args:=[],vararg:=none,kwonlyargs:=[],kw_defaults:=[],kwarg:=none,defaults:=[] }
def defBody (s:Stmt):List Stmt:=match s with
  | .FunctionDef _ _ b _ _ _ _ _ _ _=>b
  | _=>[]
def defScope (s:Stmt):Scope:=match s with
  | .FunctionDef _ _ _ _ _ _ sc _ _ _=>sc
  | _=>{ kind:=.function,names:=[],isGenerator:=false,isCoroutine:=false }
abbrev CX0:CXT:=fun _ _ _ _ _ _=>False
abbrev E0:XK:=fun _ _ _=>False
theorem pass0 {X:Cx}:Passes CX0 X E0:=fun _ _ _ _ _ _ _ h=>h.elim
structure Fun (K:PySem.W.Frag) (x qual:Str) (st:Stmt) (f:Addr) (fd:FuncData):Prop where
  ex:∃ (oc:Value) (od:Option Addr) (kV doc pm:Value) (an:Option Addr) (cdv ct:Value) (osl:Array (Option Value)),
    fd=PySem.W.fnOf x qual (defArgs st) (defBody st) (defScope st) .none kV doc pm an cdv ct∧K.lookup f=some ⟨oc,od,.func fd,osl⟩∧PySem.W.codeIn K cdv qual=true
  kp:PySem.W.keepIn K (.ref f)=true
section
variable {P:Program} {w:World} {K:PySem.W.Frag} {mg:Str→Option Value} {base:Heap}
theorem Fun.ok {x qual:Str} {st:Stmt} {f:Addr} {fd:FuncData} {N ps:List Str} {k:Nat} {sp:Sp} (F:Fun K x qual st f fd) (S:FnScope N ps (defScope st)) (len:∀ vs H Q E,sp vs H Q E→vs.length=ps.length)
    (hbody:∀ (cdv:Value) (A:Around) (outer:List Env) (s:Shared) (H:Hp) (vs:List V) (Q:VK) (E:XK),Room k (A.deeper (envOfC qual (defScope st) s.heap.objs.size f cdv))→sp vs H Q E →
      ∃ t,PSs (cxOf CX0 P w K mg base N qual (defScope st) f cdv A outer s H E).nox (defBody st) t∧t { nx:=fun _ H'=>Q .non H',rt:=Q } (start N vs) H):FnOk P w K mg base CX0 (k + 1) f fd ps sp:=by
  obtain ⟨oc,od,kV,doc,pm,an,cdv,ct,osl,rfl,lk,hcd⟩:=F.ex
  refine fn_of lk hcd S len fun A outer s H vs Q E hr hsp=>?_
  obtain ⟨t,h,q⟩:=hbody cdv A outer s H vs Q E hr hsp
  exact ⟨t,h.nox,q⟩
theorem Fun.binds {x qual:Str} {st:Stmt} {f:Addr} {fd:FuncData} {ps:List Str} (F:Fun K x qual st f fd)
    (h:∀ (kV doc pm:Value) (an:Option Addr) (cdv ct:Value) (us:List Value),us.length=ps.length→bindArgs (PySem.W.fnOf x qual (defArgs st) (defBody st) (defScope st) .none kV doc pm an cdv ct) ⟨us,[]⟩=pure (ps.zip us)):Binds K fd ps []:=by
  obtain ⟨oc,od,kV,doc,pm,an,cdv,ct,osl,rfl,lk,hcd⟩:=F.ex
  exact .all (h kV doc pm an cdv ct)
theorem fun_mk {x qual:Str} {st:Stmt} {f:Addr} {oc:Value} {od an:Option Addr} {osl:Array (Option Value)} {kV doc pm cdv ct:Value} (l:K.lookup f=some ⟨oc,od,.func (PySem.W.fnOf x qual (defArgs st) (defBody st) (defScope st) .none kV doc pm an cdv ct),osl⟩)
    (c:PySem.W.codeIn K cdv qual=true) (k:PySem.W.keepIn K (.ref f)=true):Fun K x qual st f (PySem.W.fnOf x qual (defArgs st) (defBody st) (defScope st) .none kV doc pm an cdv ct):=⟨⟨oc,od,kV,doc,pm,an,cdv,ct,osl,rfl,l,c⟩,k⟩
end
theorem hu_of {A:Around} {k:Nat} (hr:Room k A):A.units + 1 < cLine:=Nat.lt_of_le_of_lt (Nat.add_le_add_left (by decide:1≤64) _) hr.units
section
variable {X:Cx}
theorem pv (i:Nat) {x:Str} {pos:Pos} (hN:X.N[i]?=some x:=by rfl) (hv:Vis X.env.scope x:=by first | exact Or.inl rfl | exact Or.inr (Or.inl rfl) | exact Or.inr (Or.inr rfl)) (hd:(x == ("__debug__" : Str))=false:=by decide)
    (hcd:(x == ("__classdict__" : Str))=false:=by decide):PE X (.Name x pos) (tVar i):=pe_var hN hv hd hcd
end
theorem iteF {A B:Prop} (h:B):if false=true then A else B:=by
  rw [if_neg Bool.false_ne_true]
  exact h
theorem iteT {A B:Prop} (h:A):if true=true then A else B:=by
  rw [if_pos rfl]
  exact h
theorem ite2 {c A B:Prop} [Decidable c] (h1:c→A) (h2:¬ c→B):if c then A else B:=by
  by_cases h:c
  · rw [if_pos h]
    exact h1 h
  · rw [if_neg h]
    exact h2 h
theorem iteNS {c A B:Prop} [Decidable c] (hc:c) (h:B):if (!decide c)=true then A else B:=by
  rw [decide_eq_true hc]
  exact iteF h
def Same (H H':Hp):Prop:=∀ b o,H b=some o→H' b=some o
theorem Same.refl (H:Hp):Same H H:=fun _ _ h=>h
theorem Same.trans {H H1 H2:Hp} (a:Same H H1) (b:Same H1 H2):Same H H2:=fun c o h=>b c o (a c o h)
theorem Same.free {H H':Hp} (e:Same H H') {l:Addr} (h:H' l=Option.none):H l=Option.none:=by
  cases q:H l with
  | none=>rfl
  | some o =>
    rw [e l o q] at h
    cases h
theorem Same.seq {K:PySem.W.Frag} {H H':Hp} {a:Addr} {xs:List V} (e:Same H H') (h:SqL K H a xs):SqL K H' a xs:=by
  rcases h with (h | ⟨o,h⟩) | h
  · exact .inl (.inl (e _ _ h))
  · exact .inl (.inr ⟨o,e _ _ h⟩)
  · exact .inr h
end L2
set_option maxHeartbeats 4000000
namespace L2
open PySem PySem.Spec PyProof.Rows
section
variable {X:Cx}
theorem call_isinst:CallR X (.builtin "isinstance") (fun xs H Q=>∃ x T t b,xs=[x,.ty T]∧TyOf X.K H x t∧PySem.W.kitOne X.K t (.type T)=some b∧Q (.bl b) H):=by
  intro pins s σ H xs us Q I r h
  obtain ⟨x,T,t,b,rfl,ty,e,q⟩:=h
  obtain ⟨u,c,rfl,rx,rc⟩:=vals2 r
  cases (show c=Value.type T from rc)
  exact isinst_ok I rx ty e fun tk=>⟨.bl b,H,I.tok tk,rfl,q⟩
end
section
variable {X:Cx}
end
mutual
inductive RdV (K:PySem.W.Frag) (H:Hp):V→PyData→Prop where
  | non:RdV K H .non .none
  | bl (b:Bool):RdV K H (.bl b) (.bool b)
  | int (i:Int):RdV K H (.int i) (.int i)
  | str (x:Str):RdV K H (.str x) (.str x)
  | lst {a:Addr} {xs:List V} {ds:List PyData}:SqL K H a xs→RdAll K H xs ds→RdV K H (.ref a) (.list ds)
  | tup {a:Addr} {xs:List V} {ds:List PyData}:SqT K H a xs→RdAll K H xs ds→RdV K H (.ref a) (.tuple ds)
inductive RdAll (K:PySem.W.Frag) (H:Hp):List V→List PyData→Prop where
  | nil:RdAll K H [] []
  | cons {v:V} {vs:List V} {d:PyData} {ds:List PyData}:RdV K H v d→RdAll K H vs ds→RdAll K H (v :: vs) (d :: ds)
end
section
variable {X:Cx} {pins:List (Addr × Obj)} {σ:St} {H:Hp} {s:Shared}
mutual
theorem RdV.reads (I:Inv X pins σ H s):∀ {v:V} {d:PyData} {u:Value},RdV X.K H v d→RelV v u→∃ as,Reads s.heap u d as
  | _,_,u,.non,r=>by cases (show u=Value.none from r);exact ⟨_,.none⟩
  | _,_,u,.bl b,r=>by cases (show u=Value.bool b from r);exact ⟨_,.bool b⟩
  | _,_,u,.int i,r=>by obtain ⟨t,e⟩:=(show ∃ t,u=Value.int i t from r);cases e;exact ⟨_,.int i t⟩
  | _,_,u,.str x,r=>by obtain ⟨t,e⟩:=(show ∃ t,u=Value.str x t from r);cases e;exact ⟨_,.str x t⟩
  | _,_,u,@RdV.lst _ _ a xs ds hq hr,r=>by
    cases (show u=Value.ref a from r)
    obtain ⟨its,rv,⟨o,n,e,c,_,dt⟩,_⟩:=I.list hq
    obtain ⟨as,q⟩:=RdAll.reads I hr rv
    exact ⟨_,.list e c dt (by simpa using q)⟩
  | _,_,u,@RdV.tup _ _ a xs ds hq hr,r=>by
    cases (show u=Value.ref a from r)
    obtain ⟨its,rv,⟨o,e,c,n,dt⟩,_⟩:=I.tuple hq
    obtain ⟨as,q⟩:=RdAll.reads I hr rv
    exact ⟨_,.tuple e c dt (by simpa using q)⟩
theorem RdAll.reads (I:Inv X pins σ H s):∀ {vs:List V} {ds:List PyData} {us:List Value},RdAll X.K H vs ds→Vals vs us→∃ as,ReadsAll s.heap us ds as
  | _,_,_,.nil,r=>by cases r;exact ⟨_,.nil⟩
  | _,_,_,.cons h t,r=>by
    cases r with
    | cons r1 r2 =>
      obtain ⟨as,q⟩:=RdV.reads I h r1
      obtain ⟨bs,q2⟩:=RdAll.reads I t r2
      exact ⟨_,.cons q q2⟩
end
end
section
variable {X:Cx}
def rEqD (K:PySem.W.Frag) (A:Around) (neg:Bool):R2:=fun x y H Q=>∃ d e:PyData,RdV K H x d∧RdV K H y e∧d.canLay0=true∧e.canLay0=true∧A.units + min d.depth e.depth < cLine∧Q (.bl (if neg then !PyData.eqv d e else PyData.eqv d e)) H
theorem op_neD:OpR X (compareOp .NotEq) (rEqD X.K X.A true):=by
  intro pins s σ H x y v u Q I rx ry h
  obtain ⟨d,e,hd,he,cd,ce,hu,q⟩:=h
  obtain ⟨as,q1⟩:=hd.reads I rx
  obtain ⟨bs,q2⟩:=he.reads I ry
  exact SeqAt.compareNe_reads q1 q2 cd ce hu ⟨.bl _,H,I,rfl,q⟩
end
mutual
theorem eqv_self:∀ d:PyData,d.canLay0=true→PyData.eqv d d=true
  | .none,_=>by simp [PyData.eqv]
  | .bool _,_=>by simp [PyData.eqv]
  | .int _,_=>by simp [PyData.eqv]
  | .str _,_=>by simp [PyData.eqv]
  | .list xs,h=>by
    simp only [PyData.eqv]
    exact eqvAll_self xs (by simpa [PyData.canLay0] using h)
  | .tuple xs,h=>by
    simp only [PyData.eqv]
    exact eqvAll_self xs (by simpa [PyData.canLay0] using h)
  | .dict _,h=>by simp [PyData.canLay0] at h
theorem eqvAll_self:∀ ds:List PyData,PyData.canLayAll0 ds=true→PyData.eqvAll ds ds=true
  | [],_=>by simp [PyData.eqvAll]
  | d :: ds,h=>by
    simp only [PyData.canLayAll0,Bool.and_eq_true] at h
    simp only [PyData.eqvAll,Bool.and_eq_true]
    exact ⟨eqv_self d h.1,eqvAll_self ds h.2⟩
end
end L2
namespace L2
open PySem PySem.Spec PyProof.Rows
structure Fn (P:Program) (w:World) (K:PySem.W.Frag) (mg:Str→Option Value) (base:Heap) (k:Nat) (x:Str) (ps:List Str) (sp:Sp):Prop where
  ex:∃ (f:Addr) (fd:FuncData),FnOk P w K mg base CX0 k f fd ps sp∧Binds K fd ps []∧PySem.W.keepIn K (.ref f)=true∧mg x=some (.ref f)
theorem pe_fn {X:Cx} {k k':Nat} {x:Str} {ps:List Str} {sp:Sp} {p pos:Pos} {e:Expr} {es:List Expr} {t:TA} (F:Fn X.prog X.w X.K X.mg X.base k x ps sp) (hr:Room k' X.A) (ha:PA X (e :: es) t) (hk:k≤k':=by decide) (hg:Gl X x:=by rfl)
    (hdb:(x == ("__debug__" : Str))=false:=by decide) (he:starEach (e :: es) X.env=(false,eval e X.env) :: starEach es X.env:=by rfl) (hpl:(backTo pos (starEach es X.env)).any (·.1)=false:=by rfl) :
    PE X (.Call (.Name x p) (e :: es) [] pos) (tCall sp [] E0 t):=by
  obtain ⟨f,fd,h1,h2,h3,h4⟩:=F.ex
  exact pe_call h1 (hr.mono hk) hg h4 h3 h2 .nil pass0 ha hdb he hpl
theorem iteP {c A B:Prop} [Decidable c] (hc:c) (h:A):if decide c=true then A else B:=by
  rw [decide_eq_true hc]
  exact iteT h
theorem iteN {c A B:Prop} [Decidable c] (hc:¬ c) (h:B):if decide c=true then A else B:=by
  rw [decide_eq_false hc]
  exact iteF h
theorem same_new {H:Hp} {p:Addr} (h:H p=Option.none) (o:HO):Same H (upd H p o):=fun b u q=>by rw [upd_ne (ne_of_none q h)];exact q
def S (l:List Nat):Str:=⟨l.toArray⟩
theorem S_list (l:List Nat):(S l).cps.toList=l:=by simp [S]
theorem S_len (l:List Nat):(S l).length=l.length:=by simp [S,Str.length]
theorem S_inj {a b:List Nat} (h:S a=S b):a=b:=by
  have:=congrArg (fun z:Str=>z.cps.toList) h
  simpa [S_list] using this
end L2
namespace L2
open PySem PySem.Spec PyProof.Rows
def tCut (t:TS):TS:=fun D σ H=>∃ R:St→Hp→Prop,t { D with nx:=R } σ H∧∀ σ' H',R σ' H'→D.nx σ' H'
theorem ps_cut {X:Cx} {st:Stmt} {t:TS} (h:PS X st t):PS X st (tCut t):=by
  intro pins s σ H D I hw
  obtain ⟨R,h1,h2⟩:=hw
  refine thn (h pins s σ H { D with nx:=R } I h1) fun f s1 q=>?_
  cases f with
  | next =>
    obtain ⟨σ',H',I',q⟩:=q
    exact ⟨σ',H',I',h2 _ _ q⟩
  | brk=>exact q
  | cont=>exact q
  | ret v=>exact q
theorem depth_strs:∀ xs:List Str,PyData.depthAll (xs.map PyData.str)=0
  | []=>by simp [PyData.depthAll]
  | x :: r=>by simp [PyData.depthAll,PyData.depth,depth_strs r]
end L2
namespace L2
open PySem PySem.Spec PyProof.Rows
structure DefAt (K:PySem.W.Frag) (x:Str) (st:Stmt):Prop where
  ex:∃ (f:Addr) (oc:Value) (od:Option Addr) (kV doc pm:Value) (an:Option Addr) (cdv ct:Value) (osl:Array (Option Value)),
    PySem.W.nsIn K mainGlobals x=some (some (.ref f))∧K.lookup f=some ⟨oc,od,.func (PySem.W.fnOf x x (defArgs st) (defBody st) (defScope st) .none kV doc pm an cdv ct),osl⟩∧PySem.W.codeIn K cdv x=true∧PySem.W.keepIn K (.ref f)=true
theorem DefAt.mk' {K:PySem.W.Frag} {x:Str} {st:Stmt} {f:Addr} {oc:Value} {od:Option Addr} {kV doc pm:Value} {an:Option Addr} {cdv ct:Value} {osl:Array (Option Value)}
    (a:PySem.W.nsIn K mainGlobals x=some (some (.ref f))) (l:K.lookup f=some ⟨oc,od,.func (PySem.W.fnOf x x (defArgs st) (defBody st) (defScope st) .none kV doc pm an cdv ct),osl⟩) (c:PySem.W.codeIn K cdv x=true) (k:PySem.W.keepIn K (.ref f)=true):DefAt K x st :=
  ⟨f,oc,od,kV,doc,pm,an,cdv,ct,osl,a,l,c,k⟩
theorem DefAt.fn {P:Program} {w:World} {K:PySem.W.Frag} {mg:Str→Option Value} {base h:Heap} {k:Nat} {x:Str} {st:Stmt} {ps:List Str} {sp:Sp} (D:DefAt K x st) (X:K.In h) (G:h.Ns mainGlobals mg)
    (ok:∀ (f:Addr) (fd:FuncData),Fun K x x st f fd→FnOk P w K mg base CX0 k f fd ps sp)
    (hb:∀ (kV doc pm:Value) (an:Option Addr) (cdv ct:Value) (us:List Value),us.length=ps.length→bindArgs (PySem.W.fnOf x x (defArgs st) (defBody st) (defScope st) .none kV doc pm an cdv ct) ⟨us,[]⟩=pure (ps.zip us)):Fn P w K mg base k x ps sp:=by
  obtain ⟨f,oc,od,kV,doc,pm,an,cdv,ct,osl,a,l,c,kp⟩:=D.ex
  have F:=fun_mk (st:=st) l c kp
  exact ⟨f,_,ok f _ F,F.binds hb,kp,PySem.W.mg_of X G a⟩
end L2
namespace L2
open PySem PySem.Spec PyProof.Rows
section
variable {X:Cx}
def rCatG (K:PySem.W.Frag):R2:=fun x y H Q=>∃ a b xs ys,x=.ref a∧y=.ref b∧SqT K H a xs∧SqT K H b ys∧xs.length + ys.length≤sizeLine ∧
  ∀ p H',Same H H'→SqT K H' p (xs ++ ys)→Q (.ref p) H'
theorem op_catG:OpR X (binaryOp .Add) (rCatG X.K):=by
  intro pins s σ H x y v u Q I rx ry h
  obtain ⟨a,b,xs,ys,e1,e2,ha,hb,hz,q⟩:=h
  by_cases hx:xs=[]
  · subst e1;subst e2;subst hx
    cases (show v=Value.ref a from rx)
    cases (show u=Value.ref b from ry)
    obtain ⟨its,r1,p1,_⟩:=I.tuple ha
    obtain ⟨its2,r2,p2,_⟩:=I.tuple hb
    cases r1
    obtain ⟨⟨cls,dd,data,sl⟩,ho,hc,n,hd⟩:=id p1
    obtain ⟨⟨cls2,dd2,data2,sl2⟩,ho2,hc2,n2,hd2⟩:=id p2
    simp only at hc hd hc2 hd2
    subst hc hd hc2 hd2
    exact concat_meets ⟨_,ho,rfl⟩ ⟨_,ho2,rfl⟩ noFill_tuple_add seq_tuple_add PySem.F.slot_tuple_add PySem.F.entry_tuple_add (PySem.F.args_tuple_add_2 _ _)
      (tuple_addW0 a b _ its2.toArray n n2 dd dd2 sl sl2 rfl) ⟨ho,ho2,⟨.ref b,H,I,rfl,q b H (Same.refl H) (by simpa using hb)⟩⟩
  · refine op_catT pins s σ H x y v u Q I rx ry ⟨a,b,xs,ys,e1,e2,ha,hb,hx,hz,fun hy=>?_,fun hy p hp=>?_⟩
    · subst hy
      exact q a H (Same.refl H) (by simpa using ha)
    · exact q p _ (same_new hp _) (SqT.of upd_same)
theorem Same.seqT {K:PySem.W.Frag} {H H':Hp} {a:Addr} {xs:List V} (e:Same H H') (h:SqT K H a xs):SqT K H' a xs:=by
  rcases h with (h | ⟨o,h⟩) | h
  · exact .inl (.inl (e _ _ h))
  · exact .inl (.inr ⟨o,e _ _ h⟩)
  · exact .inr h
end
section
variable {X:Cx} {tg:Expr}
end
end L2
namespace L2
open PySem PySem.Spec PyProof.Rows
def compX (X:Cx) (N':List Str) (scope:Scope) (cl:List (Str × Addr)) (C:Addr) (fp:List Addr) (s₀:Shared) (H₀:Hp):Cx :=
  { X with N:=N',s₀:=s₀,H₀:=H₀,env:=compEnvC scope cl C X.env,outer:=X.stack,ex:=fp,fn:=fun _=>false,pn:=[],xe:=fun _ _=>False }
def PF (X:Cx) (ifs:List Expr) (t:TT):Prop :=
  ∀ (pins:List (Addr × Obj)) (s:Shared) (σ:St) (H:Hp) (Q:Bool→Hp→Prop),Inv X pins σ H s→t σ H Q →
    wpAny (model X.prog X.w) X.A (forIn ifs true fun c r=>if r=true then do let ok ← isTrue c X.env (eval c X.env);pure (ForInStep.yield ok) else pure (ForInStep.yield r)) (TP X pins σ Q) X.xe s
theorem pf_nil {X:Cx}:PF X [] (fun _ H Q=>Q true H):=by
  intro pins s σ H Q I h
  rw [List.forIn_nil]
  exact wpAny_pure ⟨H,I,h⟩
structure CompOk (X:Cx) (x:Str) (caps:List Str) (cap:List Nat) (scope:Scope) (cl:List (Str × Addr)):Prop where
  clos:closureFor scope X.env=pure cl
  cell:∀ y ∈ scope.names,y.2≠.cell
  kind:scope.kind=.function
  names:∀ y ∈ scope.names,y.2=.local→scope.names.lookup y.1=some .local
  lx:scope.names.lookup x=some .local
  nd:(x :: caps).Nodup
  from_:∀ y c,cl.lookup y=some c→X.env.cells.lookup y=some c
  has:∀ y,((relabel scope X.env).names.lookup y=some .cell∨(relabel scope X.env).names.lookup y=some .free)→∃ c,cl.lookup y=some c
  len:cap.length=caps.length
  cps:∀ (i:Nat) (y:Str),caps[i]?=some y→∃ j,cap[i]?=some j∧X.N[j]?=some y∧X.env.scope.names.lookup y=some .cell∧(relabel scope X.env).names.lookup y=some .cell
structure OwnAt (X:Cx) (pins:List (Addr × Obj)) (H:Hp) (s:Shared) (C:Addr):Prop where
  ns:∃ m,s.heap.Ns C m
  free:H C=none
  loc:C≠X.env.locals
  above:X.s₀.heap.objs.size≤C
  cells:∀ x c,X.env.cells.lookup x=some c→c≠C
  pins:∀ p ∈ X.pn ++ pins,p.1≠C
theorem OwnAt.go {X:Cx} {pins:List (Addr × Obj)} {σ:St} {H:Hp} {s:Shared} {C:Addr} {h':Heap} (I:Inv X pins σ H s) (o:OwnAt X pins H s C) (hb:Heap.SameBut C s.heap h'):Inv X pins σ H { s with heap:=h' } :=
  I.turned (t':=s.toks) (fun b u hb' e=>(hb.2 b hb').trans e) o.free o.loc (.inr o.above) o.cells o.pins
def compW (n:Nat) (Pv:Nat→List V→Hp→Prop):Nat→Nat→Hp→Prop:=fun i m H=>m=n - i∧i≤n∧∃ ys,Pv i ys H
def compN (n:Nat) (Pv:Nat→List V→Hp→Prop) (acc:Addr) (i m:Nat):VK:=fun y H5=>∃ ys,H5 acc=some (.lst ys)∧ys.length < sizeLine∧∃ m',m' < m∧compW n Pv (i + 1) m' (upd H5 acc (.lst (ys ++ [y])))
theorem comp_next {n:Nat} {Pv:Nat→List V→Hp→Prop} {acc:Addr} {i:Nat} {y:V} {H5:Hp} {ys:List V} (hi:i < n) (hacc:H5 acc=some (.lst ys)) (hl:ys.length < 5000) (hP:Pv (i + 1) (ys ++ [y]) (upd H5 acc (.lst (ys ++ [y])))):compN n Pv acc i (n - i) y H5 :=
  ⟨ys,hacc,Nat.lt_trans hl (by decide),n - (i + 1),by omega,rfl,hi,_,hP⟩
end L2
namespace L2
open PySem PySem.Spec PyProof.Rows
end L2
namespace L2
open PySem PySem.Spec PyProof.Rows
section
variable {X:Cx}
theorem call_isinstT:CallR X (.builtin "isinstance") (fun xs H Q=>∃ a ys T b,xs=[.ref a,.ty T]∧SqT X.K H a ys∧PySem.W.kitOne X.K (.type "tuple") (.type T)=some b∧Q (.bl b) H):=by
  intro pins s σ H xs us Q I r h
  obtain ⟨a,ys,T,b,rfl,ht,e,q⟩:=h
  obtain ⟨u,c,rfl,rx,rc⟩:=vals2 r
  cases (show c=Value.type T from rc)
  cases (show u=Value.ref a from rx)
  obtain ⟨its,r1,p,_⟩:=I.tuple ht
  obtain ⟨o,h1,h2,_⟩:=p
  exact PySem.W.kia_one PySem.W.kitx_tuple I.kIn ⟨o,h1,h2⟩ e (fun z=>nomatch z) fun tk=>⟨.bl b,H,I.tok tk,rfl,q⟩
end
end L2
namespace L2
open PySem PySem.Spec PyProof.Rows
section
variable {X:Cx} {pins:List (Addr × Obj)} {σ:St} {H:Hp} {s:Shared} {h':Heap}
theorem Inv.turnedL {ch:List Addr} {t':Nat} (I:Inv X pins σ H s) (k:∀ b o,b ∉ ch→s.heap.get? b=some o→h'.get? b=some o) (hf:∀ b ∈ ch,FpOk X pins H b):Inv X pins σ H { s with heap:=h',toks:=t' }:=by
  have nch:∀ b u,H b=some u→b ∉ ch:=fun b u e z=>by rw [(hf b z).1] at e;cases e
  refine I.step (g':=s.gens) (d':=s.drawn) (ch:=ch) (fun b hb=>?_) (fun b o _ _ hc e _=>k b o hc e) (fun b o _ _ hc e _=>⟨o.slots,k b o hc e⟩) (fun _ _ _ _ n=>n)
    (fun b o hc e=>⟨o,k b o hc e⟩) (fun _ _ e=>e) (fun _ _ _ e=>e) (fun b ps e=>⟨#[],by rw [e];simp⟩) (fun m hm=>?_) (fun b u e=>?_) I.bare
  · obtain ⟨f0,f1,f2,f3,f4,f5⟩:=hf b hb
    exact ⟨f3,f1,f4,f5⟩
  · obtain ⟨o,es,ep,ho,r⟩:=hm
    exact ⟨o,es,ep,k _ o (fun z=>(hf _ z).2.1 rfl) ho,r⟩
  · refine (I.hok b u e).stay (fun c v hc q=>k c v ?_ q) (fun _ q=>q) fun _ _ q=>q
    rcases hc with z | z
    · rw [z];exact nch b u e
    · exact nch c _ z
theorem Inv.turnedNew {ch:List Addr} {t':Nat} {a:Addr} {o:HO} (I:Inv X pins σ H s) (k:∀ b o,b ∉ ch→s.heap.get? b=some o→h'.get? b=some o) (hf:∀ b ∈ ch,FpOk X pins H b)
    (hp:s.heap.objs.size≤a) (new:ObjOk X.prog X.w (upd H a o) h' a o):Inv X pins σ (upd H a o) { s with heap:=h',toks:=t' }:=by
  have hn:H a=none:=I.hok.fresh hp
  have nch:∀ b u,H b=some u→b ∉ ch:=fun b u e z=>by rw [(hf b z).1] at e;cases e
  have lt:∀ b u,s.heap.get? b=some u→b≠a:=fun b u e=>Nat.ne_of_lt (Nat.lt_of_lt_of_le (Heap.lt_size e) hp)
  refine I.step (g':=s.gens) (d':=s.drawn) (ch:=ch) (fun b hb=>?_) (fun b o _ _ hc e _=>k b o hc e) (fun b o _ _ hc e _=>⟨o.slots,k b o hc e⟩) (fun b u _ e n=>by rw [upd_ne (lt b u e)];exact n)
    (fun b o hc e=>⟨o,k b o hc e⟩) (fun b xs e=>by rw [upd_ne (ne_of_none e hn)];exact e) (fun b u xs e=>by rw [upd_ne (ne_of_none e hn)];exact e) (fun b ps e=>⟨#[],by rw [upd_ne (ne_of_none e hn),e];simp⟩) (fun m hm=>?_) (fun b u e=>?_) I.bare
  · obtain ⟨f0,f1,f2,f3,f4,f5⟩:=hf b hb
    exact ⟨f3,f1,f4,f5⟩
  · obtain ⟨o,es,ep,ho,r⟩:=hm
    exact ⟨o,es,ep,k _ o (fun z=>(hf _ z).2.1 rfl) ho,r⟩
  · by_cases hb:b=a
    · subst hb
      rw [upd_same] at e;cases e
      exact new
    · rw [upd_ne hb] at e
      refine (I.hok b u e).stay (fun c v hc q=>k c v ?_ q) (fun c q=>by rw [upd_ne (ne_of_none q hn)];exact q) fun c xs q=>by rw [upd_ne (ne_of_none q hn)];exact q
      rcases hc with z | z
      · rw [z];exact nch b u e
      · exact nch c _ z
end
def Itz (K:PySem.W.Frag) (a b:Addr) (xs ys:List V):It :=
  ⟨fun i H=>SqL K H a xs∧SqL K H b ys∧i < xs.length∧i < ys.length,
   fun i H x H'=>∃ p u v,H p=none∧x=.ref p∧H'=upd H p (.tup [u,v])∧xs[i]?=some u∧ys[i]?=some v,
   fun i H=>SqL K H a xs∧SqL K H b ys∧(xs.length≤i∨ys.length≤i)⟩
theorem turn_zip {P:Program} {w:World} {K:PySem.W.Frag} {elts:List Expr} {k1:Nat} {pos:Pos} (a b z:Addr) (xs ys:List V) (TI TO i1 i2:Addr) (Ap:ZipApart z TI TO i1 i2 a b) :
    Turn P w K (.Tuple elts k1 pos) (Itz K a b xs ys) [z,TI,TO,i1,i2] z (fun i h=>IsZip h z TI TO .none∧IsPair h TI (.ref i1) (.ref i2)∧(∃ u v,IsPair h TO u v)∧h.IsListIter i1 a i∧h.IsListIter i2 b i) where
  mem:=by simp
  obj:=fun i h st c hc=>by
    obtain ⟨hz,hTI,⟨u,v,hTO⟩,h1,h2⟩:=st
    simp only [List.mem_cons,List.mem_nil_iff,or_false] at hc
    rcases hc with rfl | rfl | rfl | rfl | rfl
    · exact ⟨_,hz,fun v z=>by have z':Data.fields _=Data.cell v:=z;cases z'⟩
    · exact ⟨_,hTI,fun v z=>by have z':Data.seq _ _=Data.cell v:=z;cases z'⟩
    · exact ⟨_,hTO,fun v z=>by have z':Data.seq _ _=Data.cell v:=z;cases z'⟩
    · obtain ⟨o,e,c,d⟩:=h1;exact ⟨o,e,fun v z=>by rw [d] at z;cases z⟩
    · obtain ⟨o,e,c,d⟩:=h2;exact ⟨o,e,fun v z=>by rw [d] at z;cases z⟩
  keep:=fun i h h' st k=>by
    obtain ⟨hz,hTI,⟨u,v,hTO⟩,h1,h2⟩:=st
    exact ⟨k z (by simp) _ hz,k TI (by simp) _ hTI,⟨u,v,k TO (by simp) _ hTO⟩,h1.at fun o e=>k i1 (by simp) o e,h2.at fun o e=>k i2 (by simp) o e⟩
  item:=by
    intro X hP hw hK hc i pins s σ H E I hf st hg
    subst hP hw hK
    obtain ⟨hz,hTI,⟨u0,v0,hTO⟩,h1,h2⟩:=st
    obtain ⟨qa,qb,lx,ly⟩:=hg
    obtain ⟨its,rv,p,_⟩:=I.list qa
    obtain ⟨its2,rv2,p2,_⟩:=I.list qb
    have ex:xs[i]?=some xs[i]:=List.getElem?_eq_getElem lx
    have ey:ys[i]?=some ys[i]:=List.getElem?_eq_getElem ly
    obtain ⟨u,hu,ru⟩:=rv.get ex
    obtain ⟨v,hv,rv'⟩:=rv2.get ey
    refine wpAny_pyNext_zip_item Ap hz hTI hTO h1 h2 p.isList p2.isList (x:=u) (y:=v) (by simpa using hu) (by simpa using hv) fun h' a1 a2 a3 a4 a5 a6 hk=>?_
    refine ⟨.ref s.heap.objs.size,rfl,wpAny_letOwnedTupleGo_zip (s:={ s with heap:=h' }) a1 fun h'' hz' hs'=>?_⟩
    have lt:∀ {c o},s.heap.get? c=some o→c≠s.heap.objs.size:=fun e=>Nat.ne_of_lt (Heap.lt_size e)
    have e5:IsPair h'' s.heap.objs.size u v:=(hs'.2 _ (Ne.symm (lt hz))).trans a5
    have hch:∀ c ∈ [z,TO,i1,i2],FpOk X pins H c:=fun c hc=>hf c (by
      simp only [List.mem_cons,List.mem_nil_iff,or_false] at hc ⊢
      rcases hc with rfl | rfl | rfl | rfl <;> simp)
    have I2:Inv X pins σ (upd H s.heap.objs.size (.tup [xs[i],ys[i]])) { s with heap:=h'',toks:=s.toks }:=by
      refine I.turnedNew (ch:=[z,TO,i1,i2]) (fun c o hc e=>?_) hch (Nat.le_refl _) ⟨by show 2≤sizeLine;decide,[u,v],.cons ru (.cons rv' .nil),⟨_,e5,rfl,_,rfl⟩⟩
      simp only [List.mem_cons,List.mem_nil_iff,or_false,not_or] at hc
      exact (hs'.2 c hc.1).trans (hk c o hc.1 hc.2.1 hc.2.2.1 hc.2.2.2 e)
    have hfr:∀ c ∈ [z,TI,TO,i1,i2],upd H s.heap.objs.size (.tup [xs[i],ys[i]]) c=none:=fun c hc=>by
      have hc2:=hf c hc
      have:c≠s.heap.objs.size:=by
        simp only [List.mem_cons,List.mem_nil_iff,or_false] at hc
        rcases hc with rfl | rfl | rfl | rfl | rfl
        · exact lt hz
        · exact lt hTI
        · exact lt hTO
        · obtain ⟨o,e,_⟩:=h1;exact lt e
        · obtain ⟨o,e,_⟩:=h2;exact lt e
      rw [upd_ne this];exact hc2.1
    exact ⟨.ref s.heap.objs.size,_,I2,rfl,⟨s.heap.objs.size,_,_,I.fresh,rfl,rfl,ex,ey⟩,⟨hz',hs'.extBut _ _ Ap.TIz (hk _ _ Ap.TIz Ap.TITO Ap.TIi1 Ap.TIi2 hTI),⟨_,_,hs'.extBut _ _ Ap.TOz a2⟩,a3.extBut hs'.extBut Ap.i1z,a4.extBut hs'.extBut Ap.i2z⟩,hfr⟩
  done:=by
    intro X hP hw hK hc i pins s σ H E I hf st hg
    subst hP hw hK
    obtain ⟨hz,hTI,⟨u0,v0,hTO⟩,h1,h2⟩:=st
    obtain ⟨qa,qb,hl⟩:=hg
    obtain ⟨its,rv,p,_⟩:=I.list qa
    obtain ⟨its2,rv2,p2,_⟩:=I.list qb
    have l1:=rv.length
    have l2:=rv2.length
    have hch:∀ c ∈ [z,TO,i1,i2],FpOk X pins H c:=fun c hc=>hf c (by
      simp only [List.mem_cons,List.mem_nil_iff,or_false] at hc ⊢
      rcases hc with rfl | rfl | rfl | rfl <;> simp)
    refine wpAny_pyNext_zip_end (I.ok.hd hc) Ap hz hTI hTO h1 h2 p.isList p2.isList ?_ fun h' hk=>⟨rfl,I.turnedL (t':=s.toks) (ch:=[z,TO,i1,i2]) (fun c o hc e=>?_) hch⟩
    · rcases hl with q | q
      · exact .inl (by simp;omega)
      · exact .inr (by simp;omega)
    · simp only [List.mem_cons,List.mem_nil_iff,or_false,not_or] at hc
      exact hk c o hc.1 hc.2.1 hc.2.2.1 hc.2.2.2 e
  self:=fun _ _ _ _ _ st h=>wpAny_pyIter_zip st.1 h
theorem nne {x y:Nat} (h:x < y∨y < x):x≠y:=by omega
section
variable {X:Cx} {elts:List Expr} {k1:Nat} {tpos:Pos}
def iZip (K:PySem.W.Frag) (ta:TA):TI:=fun σ H R=>ta σ H fun vs H1=>∃ a b xs ys,vs=[.ref a,.ref b]∧SqL K H1 a xs∧SqL K H1 b ys∧R (Itz K a b xs ys) H1
theorem pi_zip {e1 e2:Expr} {ta:TA} {p pos:Pos} (hg:Gl X "zip") (hm:X.mg "zip" = none) (ha:PA X [e1,e2] ta) (hs:starEach [e1,e2] X.env=[(false,eval e1 X.env),(false,eval e2 X.env)]:=by rfl) (hs2:starEach [e2] X.env=[(false,eval e2 X.env)]:=by rfl) :
    PI X (.Tuple elts k1 tpos) (.Call (.Name "zip" p) [e1,e2] [] pos) (iZip X.K ta):=by
  intro pins s σ H R I h
  refine Call_ (ld_blt I hg hm PyProof.Rows.boot_zip (PyProof.Rows.callWith_type1 (thn (ha pos pins s σ H _ I h) fun us s1 ⟨vs,H1,I1,r1,q1⟩=>?_) (by rw [hs,hs2]) (by rw [hs2];rfl)))
  obtain ⟨a,b,xs,ys,e,qa,qb,q⟩:=q1
  subst e
  obtain ⟨u1,u2,e3,r3,r4⟩:=r1.two
  subst e3
  cases (show u1=Value.ref a from r3)
  cases (show u2=Value.ref b from r4)
  obtain ⟨its,rv,pl,_⟩:=I1.list qa
  obtain ⟨its2,rv2,pl2,_⟩:=I1.list qb
  have la:@LT.lt Nat _ a s1.heap.objs.size:=by obtain ⟨o,n,e,_⟩:=pl;exact Heap.lt_size e
  have lb:@LT.lt Nat _ b s1.heap.objs.size:=by obtain ⟨o,n,e,_⟩:=pl2;exact Heap.lt_size e
  refine call_zip_2 pl.isList pl2.isList fun h' hz hTI hTO h1 h2 hsz hk=>?_
  refine wpAny_pyIter_zip hz ?_
  have I2:Inv X pins σ H1 { s1 with heap:=h' }:=I1.kept (t':=s1.toks) hk
  refine ⟨s1.heap.objs.size + 4,[s1.heap.objs.size + 4,s1.heap.objs.size + 2,s1.heap.objs.size + 3,s1.heap.objs.size,s1.heap.objs.size + 1],_,_,H1,rfl,I2,
    turn_zip a b (s1.heap.objs.size + 4) xs ys (s1.heap.objs.size + 2) (s1.heap.objs.size + 3) s1.heap.objs.size (s1.heap.objs.size + 1) ?_,⟨hz,hTI,⟨_,_,hTO⟩,h1,h2⟩,fun c hc=>?_,q⟩
  · constructor <;> (refine nne ?_;omega)
  · have hle:@LE.le Nat _ s1.heap.objs.size c:=by
      simp only [List.mem_cons,List.mem_nil_iff,or_false] at hc
      rcases hc with rfl | rfl | rfl | rfl | rfl <;> omega
    exact I1.fpOk hle (I1.hok.fresh hle)
theorem for_zip {K:PySem.W.Frag} {a b:Addr} {xs ys:List V} {g:TG} {tb:TS} {D:Ends} {σ:St} {H:Hp} (hlen:xs.length=ys.length) (Pv:Nat→St→Hp→Prop) (h0:Pv 0 σ H) (hl:∀ i σ H,i≤xs.length→Pv i σ H→SqL K H a xs∧SqL K H b ys)
    (hs:∀ i u v p σ H,xs[i]?=some u→ys[i]?=some v→H p=none→Pv i σ H→g (.ref p) σ (upd H p (.tup [u,v])) fun σ2 H2=>tb { D with nx:=Pv (i + 1),ct:=Pv (i + 1),bk:=D.nx } σ2 H2) (hd:∀ σ H,Pv xs.length σ H→D.nx σ H) :
    ∃ W:Nat→Nat→St→Hp→Prop,(∃ m,W 0 m σ H)∧∀ i m σ H,W i m σ H →
      ((Itz K a b xs ys).stop i H∧D.nx σ H)∨((Itz K a b xs ys).go i H∧∃ N:St→Hp→Prop,(∀ σ' H',N σ' H'→∃ m',m' < m∧W (i + 1) m' σ' H')∧∀ x H',(Itz K a b xs ys).yld i H x H'→g x σ H' fun σ2 H2=>tb { D with nx:=N,ct:=N,bk:=D.nx } σ2 H2):=by
  refine ⟨fun i m σ H=>m=xs.length - i∧i≤xs.length∧Pv i σ H,⟨xs.length - 0,rfl,Nat.zero_le _,h0⟩,?_⟩
  rintro i m σ H ⟨rfl,hi,p⟩
  obtain ⟨qa,qb⟩:=hl i σ H hi p
  by_cases h:i < xs.length
  · refine .inr ⟨⟨qa,qb,h,by omega⟩,Pv (i + 1),fun σ' H' p'=>⟨xs.length - (i + 1),by omega,rfl,h,p'⟩,?_⟩
    rintro x H' ⟨p',u,v,hp,rfl,rfl,hu,hv⟩
    exact hs i u v p' σ H hu hv hp p
  · have e:i=xs.length:=by omega
    subst e
    exact .inl ⟨⟨qa,qb,.inl (Nat.le_refl _)⟩,hd σ H p⟩
end
end L2
namespace L2
open PySem PySem.Spec PyProof.Rows
theorem vals_items:∀ {ns:List Int} {us:List Value},Vals (ns.map V.int) us→∃ xs:List (Int × Tok),us=xs.map (fun p=>Value.int p.1 p.2)∧xs.map (·.1)=ns
  | [],_,.nil=>⟨[],rfl,rfl⟩
  | n :: ns,_,.cons r rr=>by
    obtain ⟨t,e⟩:=r
    obtain ⟨xs,e1,e2⟩:=vals_items rr
    exact ⟨(n,t) :: xs,by rw [e,e1];rfl,by rw [List.map_cons,e2]⟩
theorem items_arr (xs:List (Int × Tok)):intItems xs.toArray=(xs.map (fun p=>Value.int p.1 p.2)).toArray:=by
  simp [intItems]
theorem num_at (xs:List (Int × Tok)) (j:Nat):numAt xs.toArray j=(xs.map (·.1)).getD j 0:=by rw [numAt_eq]
theorem pre_sum (xs:List (Int × Tok)) (j:Nat):preSum (numAt xs.toArray) j=((xs.map (·.1)).take j).sum:=by rw [preSum_eq]
def Fits (ns:List Int):Prop:=(∀ n ∈ ns,0≤n)∧ns.sum≤1000000000
section
variable {X:Cx}
end
theorem gtI {prog:Program} {w:World} {A:Around} {E:Value→Shared→Prop} {s:Shared} {a M:Int} {t u:Tok} {Q:Value→Shared→Prop} (h:Q (.bool (decide (M < a))) s):wpAny (model prog w) A (richCompare .Gt (.int a t) (.int M u)) Q E s :=
  CmpOf.ints_gt (P:=fun k v=>∃ t,v=.int (if k=0 then a else M) t) (fun k=>if k=0 then a else M) (fun _ _ h=>h) 0 1 _ _ s Q E ⟨t,rfl⟩ ⟨u,rfl⟩ h
def Mx (val:Nat→Int) (i:Nat) (M:Int):Prop:=(∃ j,j < i∧val j=M)∧∀ j,j < i→val j≤M
section
variable {prog:Program} {w:World} {A:Around} {R:Result→Shared→Prop} {I:Addr} {fp wr:List Addr} {n:Nat} {P:Nat→Value→Prop} {St:Nat→Heap→Prop}
theorem maxd_loop (W:Walks prog w A.in1 I fp wr n P St) (val:Nat→Int) (hval:∀ i v,P i v→∃ t,v=.int (val i) t) (d:Value) (S:Addr) (hSf:S ∉ fp) :
    ∀ (k i:Nat) (s:Shared) (ob:List Value) (c:Nat),n - i=k→i≤n→St i s.heap→((i=0∧ob=[])∨∃ M t,ob=[Value.int M t,.int M t]∧Mx val i M) →
      s.heap.get? S=some { cls:=.type "list", dict:=none,data:=.seq ob.toArray c,slots:=#[] } →
      (∀ v h' tk,((n=0∧v=d)∨∃ M t,v=.int M t∧Mx val n M)→(∀ b o,b ∉ wr→b≠S→s.heap.get? b=some o→h'.get? b=some o)→R (.ok (.ret v)) { s with heap:=h',toks:=tk }) →
      codeAny (model prog w) A (.builtin "max.loop" ⟨[.ref I,.none,.ref S],[(Str.ofString "default", d)]⟩) R s:=by
  have hSw:S ∉ wr:=fun h=>hSf (W.sub _ h)
  have hname:(toString "max" ++ toString ".loop" : String) = "max.loop" := by decide
  intro k
  induction k with
  | zero =>
    intro i s ob c hk hi hst hob hS hR
    have hin:i=n:=by omega
    subst hin
    refine codeAny_builtin F.entry_max_loop ?_
    rw [Around.under_plainId F.plain_max_loop _]
    show wpAny _ A.in1 (seqItems? (.ref S) >>= _) _ _ s
    refine wpAny_bind (wpAny_seqItems hS rfl ?_)
    rcases hob with ⟨h0,rfl⟩ | ⟨M,t,rfl,hM⟩
    · show wpAny _ A.in1 (tryCatch (pyNext (.ref I)) _ >>= _) _ _ s
      refine wpAny_bind (wpAny_tryCatch (W.done s _ _ hst fun h' tk hk'=>?_))
      show wpAny _ A.in1 (rule _ >>= _) _ _ _
      exact wpAny_bind (wpAny_rule (wpAny_pure (hR d h' tk (.inl ⟨h0,rfl⟩) fun b o hb _ e=>hk' b o hb e)))
    · show wpAny _ A.in1 (tryCatch (pyNext (.ref I)) _ >>= _) _ _ s
      refine wpAny_bind (wpAny_tryCatch (W.done s _ _ hst fun h' tk hk'=>?_))
      show wpAny _ A.in1 (updateSeq S (fun _=>#[]) >>= _) _ _ _
      refine wpAny_bind (wpAny_updateSeq (hk' S _ hSw hS) rfl (wpAny_bind (wpAny_letGo (wpAny_pure (hR _ _ tk (.inr ⟨M,t,rfl,hM⟩) fun b o hbw hbS e=>?_)))))
      exact (Heap.get?_update_other _ _ (Ne.symm hbS)).trans (hk' b o hbw e)
  | succ k ih =>
    intro i s ob c hk hi hst hob hS hR
    have hlt:i < n:=by omega
    refine codeAny_builtin F.entry_max_loop ?_
    rw [Around.under_plainId F.plain_max_loop _]
    show wpAny _ A.in1 (seqItems? (.ref S) >>= _) _ _ s
    refine wpAny_bind (wpAny_seqItems hS rfl ?_)
    rcases hob with ⟨h0,rfl⟩ | ⟨M,t,rfl,hM⟩
    · show wpAny _ A.in1 (tryCatch (pyNext (.ref I)) _ >>= _) _ _ s
      refine wpAny_bind (wpAny_tryCatch (W.item i s _ _ hlt hst fun v h' tk hP hst' hk'=>?_))
      obtain ⟨tv,rfl⟩:=hval i v hP
      have hS':=hk' S _ hSw hS
      show wpAny _ A.in1 (updateSeq S (fun _=>#[_,_]) >>= _) _ _ _
      refine wpAny_bind (wpAny_updateSeq hS' rfl ?_)
      rw [hname]
      refine wpAny_pure ⟨plainId_quiet F.plain_max_loop _,ih (i + 1) _ [.int (val i) tv,.int (val i) tv] _ (by omega) hlt (W.frame _ _ _ hst' fun b hbf o e=>?_) (.inr ⟨val i,tv,rfl,⟨i,by omega,rfl⟩,fun j hj=>?_⟩) (Heap.get?_update_self _ hS' rfl) fun v h'' tk'' hv hk''=>?_⟩
      · exact (Heap.get?_update_other _ _ (fun h:S=b=>hSf (by rw [h];exact hbf))).trans e
      · have:j=i:=by omega
        rw [this];exact Int.le_refl _
      · exact hR v h'' tk'' hv fun b o hbw hbS e=>hk'' b o hbw hbS ((Heap.get?_update_other _ _ (Ne.symm hbS)).trans (hk' b o hbw e))
    · show wpAny _ A.in1 (tryCatch (pyNext (.ref I)) _ >>= _) _ _ s
      refine wpAny_bind (wpAny_tryCatch (W.item i s _ _ hlt hst fun v h' tk hP hst' hk'=>?_))
      obtain ⟨tv,rfl⟩:=hval i v hP
      have hS':=hk' S _ hSw hS
      show wpAny _ A.in1 (tryCatch (holding [_,_] (richCompare .Gt _ _ >>= _)) _ >>= _) _ _ _
      refine wpAny_bind (wpAny_tryCatch (wpAny_holding (wpAny_bind (gtI (M:=M) ?_))))
      refine wpAny_bind (wpAny_holding (wpAny_truthy_bool ?_))
      refine wpAny_bind (wpAny_letGo (wpAny_pure ?_))
      by_cases hb:M < val i
      · rw [decide_eq_true hb]
        simp only [if_true]
        refine wpAny_bind (wpAny_updateSeq hS' rfl (wpAny_bind (wpAny_letGo ?_)))
        rw [hname]
        refine wpAny_pure ⟨plainId_quiet F.plain_max_loop _,ih (i + 1) _ [.int (val i) tv,.int (val i) tv] _ (by omega) hlt (W.frame _ _ _ hst' fun b hbf o e=>?_) (.inr ⟨val i,tv,rfl,⟨i,by omega,rfl⟩,fun j hj=>?_⟩) (Heap.get?_update_self _ hS' rfl) fun v h'' tk'' hv hk''=>?_⟩
        · exact (Heap.get?_update_other _ _ (fun h:S=b=>hSf (by rw [h];exact hbf))).trans e
        · by_cases hji:j=i
          · rw [hji];exact Int.le_refl _
          · have:=hM.2 j (by omega);omega
        · exact hR v h'' tk'' hv fun b o hbw hbS e=>hk'' b o hbw hbS ((Heap.get?_update_other _ _ (Ne.symm hbS)).trans (hk' b o hbw e))
      · rw [decide_eq_false hb]
        simp only [Bool.false_eq_true,if_false]
        refine wpAny_bind (wpAny_letGo ?_)
        rw [hname]
        refine wpAny_pure ⟨plainId_quiet F.plain_max_loop _,ih (i + 1) _ [.int M t,.int M t] c (by omega) hlt hst' (.inr ⟨M,t,rfl,?_,fun j hj=>?_⟩) hS' fun v h'' tk'' hv hk''=>?_⟩
        · obtain ⟨j,hj,e⟩:=hM.1;exact ⟨j,by omega,e⟩
        · by_cases hji:j=i
          · rw [hji];omega
          · exact hM.2 j (by omega)
        · exact hR v h'' tk'' hv fun b o hbw hbS e=>hk'' b o hbw hbS (hk' b o hbw e)
end
section
variable {prog:Program} {w:World} {A:Around} {E:Value→Shared→Prop} {s:Shared}
theorem args_maxd (a d:Value):argsOk "max" ⟨[a],[(Str.ofString "default", d)]⟩:=by unfold argsOk;kernel_rfl
theorem maxd_call {l:Addr} {xs:List (Int × Tok)} {d:Value} {Q:Value→Shared→Prop} (hh:A.handled=none) (hl:s.heap.IsList l (intItems xs.toArray))
    (h:∀ v h' tk,((xs.length=0∧v=d)∨∃ M t,v=.int M t∧Mx (numAt xs.toArray) xs.length M)→(∀ b o,s.heap.get? b=some o→h'.get? b=some o)→Q v { s with heap:=h',toks:=tk }) :
    wpAny (model prog w) A (call (.builtin "max") [.ref l] [(Str.ofString "default", d)]) Q E s:=by
  have hname:(toString "max" ++ toString ".loop" : String) = "max.loop" := by decide
  have hsz:(intItems xs.toArray).size=xs.length:=by simp [intItems]
  refine wpAny_call (codeAny_call_builtin F.plain_max F.entry_max ?_)
  have hc:wpAny (model prog w) A.in1 (Builtin.«max» ⟨[.ref l],[(Str.ofString "default", d)]⟩) (fun fin s'=>match fin with
      | .done f=>(match (Except.ok f:Result) with | .ok (.ret v)=>Q v s' | .ok _=>False | .error e=>E e s')
      | .again c'=>c'.quiet=true∧codeAny (model prog w) A c' (fun r s'=>match r with | .ok (.ret v)=>Q v s' | .ok _=>False | .error e=>E e s') s') E s:=by
    show wpAny _ A.in1 (Builtin.Builtins.bindParams "max" ["key", "default"] 0 ⟨[],[(Str.ofString "default", d)]⟩ >>= _) _ _ s
    refine wpAny_bind (wpAny_of_eq (show Builtin.Builtins.bindParams "max" ["key", "default"] 0 ⟨[],[(Str.ofString "default", d)]⟩=pure [none,some d] from rfl) ?_)
    refine wpAny_bind (wpAny_pure ?_)
    refine wpAny_bind (iter_intList hl fun s₂ e st hfp hlI=>?_)
    subst e
    refine wpAny_bind (wpAny_newObj_type ?_)
    have hSf:(s.heap.push { cls:=.type "list_iterator", data:=.fields #[.ref l,.int 0 0] }).objs.size ∉ [s.heap.objs.size,l]:=fun hm=>Nat.lt_irrefl _ (hfp _ hm)
    rw [hname]
    have W:=Walks.list (prog:=prog) (w:=w) (A:=A.in1) hh s.heap.objs.size l hlI (intItems xs.toArray)
    refine wpAny_pure ⟨plainId_quiet F.plain_max_loop _,maxd_loop W (numAt xs.toArray) (fun _ _=>intItems_at) d _ hSf _ 0 _ [] 0 rfl (Nat.zero_le _) (W.frame _ _ _ st fun b _ o e=>Heap.get?_push_of_some _ e) (.inl ⟨rfl,rfl⟩) (Heap.get?_push_size _ rfl) fun v h' tk hv hk=>?_⟩
    rw [hsz] at hv
    exact h v h' tk hv (old_kept fun b o hb e=>hk b o hb (Nat.ne_of_lt (Heap.lt_size e)) (Heap.get?_push_of_some _ e))
  simp only [checkBuiltinCall,F.kind_max]
  cases hsig:Manifest.signature? "max" with
  | none=>exact wpAny_pure hc
  | some sig =>
    have hok:Bind.checkArgs "max" sig ⟨[.ref l],[(Str.ofString "default", d)]⟩=pure ():=by simpa only [argsOk,hsig] using args_maxd (.ref l) d
    simp only [hok]
    exact wpAny_pure hc
end
end L2
namespace L2
open PySem PySem.Spec PyProof.Rows
section
variable {X:Cx} {x:Str} {p pos:Pos} {e:Expr} {es:List Expr} {kws:List Keyword} {t tk:TA} {id:String} {ks:List Str} {r:List V→List V→Hp→VK→Prop}
def CallKR (X:Cx) (id:String) (ks:List Str) (r:List V→List V→Hp→VK→Prop):Prop :=
  ∀ (pins:List (Addr × Obj)) (s:Shared) (σ:St) (H:Hp) (vs:List V) (us:List Value) (zs:List V) (ws:List Value) (Q:VK),Inv X pins σ H s→Vals vs us→Vals zs ws→r vs zs H Q→wpAny (model X.prog X.w) X.A (call (.builtin id) us (ks.zip ws)) (EP X pins σ Q) X.xe s
def tCBK (r:List V→List V→Hp→VK→Prop) (t tk:TA):TE:=fun σ H Q=>t σ H fun vs H1=>tk σ H1 fun zs H2=>r vs zs H2 Q
theorem pe_callBK (hc:CallKR X id ks r) (hg:Gl X x) (hm:X.mg x=none) (hv:bootBuiltins x=some (.builtin id)) (ha:PA X (e :: es) t) (hkw:PK X kws tk) (hks:(backToKw pos (keywordEach kws X.env)).filterMap (·.1)=ks:=by rfl)
    (hn:x ≠ "__name__" := by decide) (hdb:(x == ("__debug__" : Str))=false:=by decide)
    (he:backTo pos (starEach (e :: es) X.env)=(false,eval e X.env) :: backTo pos (starEach es X.env):=by rfl)
    (hpl:(backTo pos (starEach (e :: es) X.env)).any (·.1)=false:=by rfl)
    (hall:(backToKw pos (keywordEach kws X.env)).all (·.1.isSome)=true:=by rfl)
    (hno:(backToKw pos (keywordEach kws X.env)).any (·.1.isNone)=false:=by rfl):PE X (.Call (.Name x p) (e :: es) kws pos) (tCBK r t tk):=by
  intro pins s σ H Q I h
  refine wpAny_Call_Name_kw (ld_blt I hg hm hv (callWith_kw ?_ he hpl hall hno) hn hdb)
  refine thn (ha pos pins s σ H _ I h) fun us s1 ⟨vs,H1,I1,r1,q⟩=>thn (hkw pos pins s1 σ H1 _ I1 q) fun ws s2 ⟨zs,H2,I2,r2,q2⟩=>?_
  rw [hks]
  exact hc pins s2 σ H2 vs us zs ws Q I2 r1 r2 q2
theorem call_maxd (hc:X.calm=true):CallKR X "max" ["default"] (fun vs zs H Q=>∃ l ns d,vs=[.ref l]∧zs=[d]∧SqL X.K H l (ns.map V.int)∧(ns=[]→Q d H)∧∀ M,M ∈ ns→(∀ n ∈ ns,n≤M)→Q (.int M) H):=by
  intro pins s σ H vs us zs ws Q I rv rz h
  obtain ⟨l,ns,d,rfl,rfl,hl,q0,q⟩:=h
  cases rv with
  | cons r rr =>
    cases rr
    cases rz with
    | cons rd rrd =>
      cases rrd
      obtain rfl:_=Value.ref l:=r
      obtain ⟨its,rv,pl,_⟩:=I.list hl
      obtain ⟨ys,rfl,e2⟩:=vals_items rv
      have hL:s.heap.IsList l (intItems ys.toArray):=by rw [items_arr];exact pl.isList
      have hlen:ys.length=ns.length:=by rw [← e2];simp
      show wpAny _ _ (call (.builtin "max") [.ref l] [(Str.ofString "default", _)]) _ _ s
      refine maxd_call (I.ok.hd hc) hL fun v h' tk hv hk=>?_
      have I':=I.kept (t':=tk) hk
      rcases hv with ⟨h0,rfl⟩ | ⟨M,t,rfl,⟨j,hj,ej⟩,hM⟩
      · exact ⟨d,H,I',rd,q0 (List.length_eq_zero_iff.mp (by omega))⟩
      · rw [num_at,e2] at ej
        refine ⟨.int M,H,I',⟨t,rfl⟩,q M ?_ fun n hn=>?_⟩
        · rw [← ej,List.getD_eq_getElem?_getD,List.getElem?_eq_getElem (by omega)]
          exact List.getElem_mem _
        · obtain ⟨i,hi,rfl⟩:=List.getElem_of_mem hn
          have:=hM i (by omega)
          rw [num_at,e2,List.getD_eq_getElem?_getD,List.getElem?_eq_getElem hi] at this
          exact this
end
end L2
namespace L2
open PySem PySem.Spec PyProof.Rows
structure CompG (X:Cx) (xs caps:List Str) (cap:List Nat) (scope:Scope) (cl:List (Str × Addr)):Prop where
  clos:closureFor scope X.env=pure cl
  cell:∀ y ∈ scope.names,y.2≠.cell
  kind:scope.kind=.function
  names:∀ y ∈ scope.names,y.2=.local→scope.names.lookup y.1=some .local
  lx:∀ x ∈ xs,scope.names.lookup x=some .local
  nd:(xs ++ caps).Nodup
  from_:∀ y c,cl.lookup y=some c→X.env.cells.lookup y=some c
  has:∀ y,((relabel scope X.env).names.lookup y=some .cell∨(relabel scope X.env).names.lookup y=some .free)→∃ c,cl.lookup y=some c
  len:cap.length=caps.length
  cps:∀ (i:Nat) (y:Str),caps[i]?=some y→∃ j,cap[i]?=some j∧X.N[j]?=some y∧X.env.scope.names.lookup y=some .cell∧(relabel scope X.env).names.lookup y=some .cell
def capV (cap:List Nat) (σ:St):St:=cap.map fun j=>(σ[j]?).getD none
def tCompG (n:Nat) (wi:TI) (cap:List Nat) (g:TG) (tt:TT) (te:TE):TE:=fun σ H Q=>wi σ H fun J H1=>∀ acc,H1 acc=none→∃ W:Nat→Nat→Hp→Prop,(∃ m,W 0 m (upd H1 acc (.lst [])))∧∀ i m H2,W i m H2 →
  (J.stop i H2∧Q (.ref acc) H2)∨(J.go i H2∧∀ x H3,J.yld i H2 x H3→∀ as:St,as.length=n→g x (as ++ capV cap σ) H3 fun σ4 H4=>(∃ bs:St,bs.length=n∧σ4=bs ++ capV cap σ)∧tt σ4 H4 fun ok H5=>if ok=true then
    te σ4 H5 (fun y H6=>∃ ys,H6 acc=some (.lst ys)∧ys.length < sizeLine∧∃ m',m' < m∧W (i + 1) m' (upd H6 acc (.lst (ys ++ [y]))))
    else ∃ m',m' < m∧W (i + 1) m' H5)
theorem compG_core {X:Cx} {elt iter tg:Expr} {xs:List Str} {ifs:List Expr} {scope:Scope} {pos pos':Pos} {wi:TI} {g:TG} {tt:TT} {te:TE} {cl:List (Str × Addr)} {caps:List Str} {cap:List Nat}
    (O:CompG X xs caps cap scope cl) (hc:X.calm=true) (hi:PI X tg iter wi) (hg:∀ C fp s₀ H₀,PG (compX X (xs ++ caps) scope cl C fp s₀ H₀) tg g)
    (ht:∀ C fp s₀ H₀,PF (compX X (xs ++ caps) scope cl C fp s₀ H₀) ifs tt) (he:∀ C fp s₀ H₀,PE (compX X (xs ++ caps) scope cl C fp s₀ H₀) elt te)
    (hs:∀ x,foldedSetIterable iter X.env x=pure x) {pins:List (Addr × Obj)} {s:Shared} {σ:St} {H:Hp} {Q:VK} {use:Option (Value→Sem Unit)} {QQ:Value→Shared→Prop} (I:Inv X pins σ H s)
    (h:tCompG xs.length wi cap g tt te σ H Q)
    (hfin:∀ D C H' s',Inv X pins σ H' s'→OwnAt X pins H' s' C→Q (.ref D) H'→compPost (model X.prog X.w) X.A X.xe use QQ (.ref D) C (.ok .next) s') :
    wpAny (model X.prog X.w) X.A (comprehension (.ListComp elt [⟨tg,iter,ifs,0⟩] scope pos) scope X.env pos' (newList []) false (eval iter X.env) use) QQ X.xe s:=by
  refine wpAny_comprehension_free rfl hs O.clos O.kind O.names (thn (hi pins s σ H _ I h) fun v s1 h1=>thn h1 fun itv s2 h2=>?_)
  obtain ⟨it,fp,tn,J,H1,e,I2,T,t0,f2,hR⟩:=h2
  subst e
  refine wpAny_newObj_type (wpAny_newFunctionEnv O.cell (by intro y hy;simp at hy) (fun h₁ hns hsb=>?_) O.kind)
  have hacc:H1 s2.heap.objs.size=none:=I2.fresh
  obtain ⟨W,⟨m0,w0⟩,turn⟩:=hR s2.heap.objs.size hacc
  have I3:Inv X pins σ (upd H1 s2.heap.objs.size (.lst [])) { s2 with heap:=s2.heap.push { cls:=.type "list", data:=.seq ([]:List Value).toArray } }:=I2.lnew (t':=s2.toks) (ys:=[]) (its:=[]) .nil (Nat.zero_le _)
  generalize hs3:({ s2 with heap:=s2.heap.push { cls:=.type "list", data:=.seq ([]:List Value).toArray } }:Shared)=s3 at hns hsb I3 ⊢
  generalize hD:s2.heap.objs.size=D at I3 w0 turn hacc ⊢
  generalize hH3:upd H1 D (.lst [])=H3 at I3 w0
  have keep3:∀ b o,s3.heap.get? b=some o→h₁.get? b=some o:=fun b o e=>(hsb.2 b (Nat.ne_of_lt (Heap.lt_size e))).trans (Heap.get?_push_of_some _ e)
  have hfp3:∀ b ∈ fp,H3 b=none:=fun b hb=>by
    rw [← hH3,upd_ne]
    · exact (f2 b hb).1
    · intro z
      obtain ⟨o,e,_⟩:=T.obj _ _ t0 b hb
      exact absurd (Heap.lt_size e) (by rw [z,hD];exact Nat.lt_irrefl _)
  have hCfresh:H3 s3.heap.objs.size=none:=I3.fresh
  have hCfp:∀ b ∈ fp,b≠s3.heap.objs.size:=fun b hb z=>by
    obtain ⟨o,e,_⟩:=T.obj _ _ t0 b hb
    have h2:s3.heap.objs.size=s2.heap.objs.size + 1:=by rw [← hs3];exact Heap.size_push ..
    exact absurd (Heap.lt_size e) (by rw [z,h2];exact Nat.not_lt.mpr (Nat.le_succ _))
  have t3:tn 0 h₁:=T.keep _ _ _ t0 fun b hb o e=>keep3 b o (by rw [← hs3];exact Heap.get?_push_of_some _ e)
  have ok':(compX X (xs ++ caps) scope cl s3.heap.objs.size fp s3 H3).Ok:=by
    refine ⟨I3.ok.mod,O.kind,I3.ok.glob,I3.ok.blt,Nat.le_refl _,fun y z c e1 e2=>I3.ok.inj y z c (O.from_ y c e1) (O.from_ z c e2),fun y hy=>O.has y hy,fun y c z _=>(nomatch z),I3.ok.hd,I3.ok.frames,.inl rfl,fun b hb=>⟨hCfp b hb,fun y c e=>?_⟩,I3.bs,Nat.le_trans I3.ok.bsz I3.sz,fun b o e hb=>?_,fun b hb z=>?_,I3.stack,I3.stkFree⟩
    · exact (f2 b hb).2.2.2.2.1 y c (O.from_ y c e)
    · rcases (f2 b hb).2.2.2.1 with q | q
      · exact I3.ok.noex b o e q
      · exact absurd (Nat.lt_of_lt_of_le (Heap.lt_size e) (Nat.le_trans I3.ok.bsz q)) (Nat.lt_irrefl _)
    · rcases List.mem_cons.mp (I3.stkSub b z) with q | q
      · exact (f2 b hb).2.1 q
      · exact (f2 b hb).2.2.1 q
  have I4:Inv (compX X (xs ++ caps) scope cl s3.heap.objs.size fp s3 H3) [] (List.replicate xs.length none ++ capV cap σ) H3 { s3 with heap:=h₁,toks:=s3.toks + ([]:List (Str × Value)).length }:=by
    obtain ⟨m,hn,hl⟩:=id I3.loc
    refine ⟨ok',rfl,I3.bare,Un.kept keep3,⟨_,hns,fun i y v e1 e2 e3=>?_⟩,fun y c e=>?_,hCfresh,fun y c e=>I3.freeC y c (O.from_ y c e),fun p hp=>(nomatch hp),I3.hok.kept keep3,?_⟩
    · by_cases hix:i < xs.length
      · rw [List.getElem?_append_left (by rw [List.length_replicate];exact hix),List.getElem?_replicate,if_pos hix] at e2
        cases e2
      · have e1':caps[i - xs.length]?=some y:=by
          have e1'':(xs ++ caps)[i]?=some y:=e1
          rwa [List.getElem?_append_right (by omega)] at e1''
        obtain ⟨j,hj,hN,hk,hk'⟩:=O.cps _ y e1'
        have e2':(σ[j]?).getD none=some v:=by
          rw [List.getElem?_append_right (by rw [List.length_replicate];omega),List.length_replicate] at e2
          unfold capV at e2
          simpa [hj] using e2
        have e2'':σ[j]?=some (some v):=by
          cases q:σ[j]? with
          | none=>rw [q] at e2';cases e2'
          | some a=>rw [q] at e2';exact congrArg some e2'
        obtain ⟨u,r,l⟩:=hl j y v hN e2'' (.inr (.inl hk))
        refine ⟨u,r,?_⟩
        rcases l with ⟨k,_⟩ | ⟨k,c,e,z⟩
        · have k':X.env.scope.names.lookup y=some .local:=k
          rw [hk] at k';cases k'
        · obtain ⟨c',hc'⟩:=O.has y (.inl hk')
          have:c'=c:=Option.some.inj ((O.from_ y c' hc').symm.trans e)
          subst this
          refine .inr ⟨.inl hk',c',hc',?_⟩
          obtain ⟨o,ho,hd⟩:=z
          exact ⟨o,keep3 _ _ ho,hd⟩
    · obtain ⟨v,o,ho,hd⟩:=I3.cell y c (O.from_ y c e)
      exact ⟨v,o,keep3 _ _ ho,hd⟩
    · show (List.replicate xs.length none ++ capV cap σ).length=(xs ++ caps).length
      simp [capV,O.len]
  have fin:∀ (H':Hp) (σ':St) (s':Shared),Inv (compX X (xs ++ caps) scope cl s3.heap.objs.size fp s3 H3) [] σ' H' s'→Q (.ref D) H' →
      compPost (model X.prog X.w) X.A X.xe use QQ (.ref D) s3.heap.objs.size (.ok .next) s':=fun H' σ' s' I' q=>by
    obtain ⟨m,hn,_⟩:=id I'.loc
    have hU:Un (frs X.stack) fp H3 H' s3.heap s'.heap:=I'.base
    have hok2:HOk X.prog X.w H' s'.heap:=I'.hok
    have os':s'.os=s3.os:=I'.os
    have I6:Inv X pins σ H' s':=I3.call' (ch:=fp) os' hU hok2 I'.bare (fun b hb=>⟨(f2 b hb).2.2.2.1,(f2 b hb).2.1,(f2 b hb).2.2.2.2⟩)
    refine hfin D _ H' s' I6 ⟨⟨m,hn⟩,I'.free,Nat.ne_of_gt I3.lt,I3.sz,fun y c e z=>?_,fun p hp z=>?_⟩ q
    · obtain ⟨v,hv⟩:=I3.cell y c e
      exact absurd hv.lt (by rw [z];exact Nat.lt_irrefl _)
    · exact absurd (Heap.lt_size (I3.pin p hp).1) (by rw [z];exact Nat.lt_irrefl _)
  have stat:∀ {H':Hp},(∀ b ∈ fp,H' b=none)→∀ b ∈ fp,FpOk (compX X (xs ++ caps) scope cl s3.heap.objs.size fp s3 H3) [] H' b:=fun hn b hb =>
    ⟨hn b hb,hCfp b hb,ok'.exfs b hb,.inl hb,fun y c e=>(f2 b hb).2.2.2.2.1 y c (O.from_ y c e),fun p hp=>(nomatch hp)⟩
  have loop:codeAny (model X.prog X.w) X.A (.compLoop (.ListComp elt [⟨tg,iter,ifs,0⟩] scope pos) 0 (.ref it) (.ref D) (compEnvC scope cl s3.heap.objs.size X.env))
      (compPost (model X.prog X.w) X.A X.xe use QQ (.ref D) s3.heap.objs.size) { s3 with heap:=h₁,toks:=s3.toks + ([]:List (Str × Value)).length }:=by
    refine codeAny_loop rfl (fun n s'=>∃ i as H',as.length=xs.length∧Inv (compX X (xs ++ caps) scope cl s3.heap.objs.size fp s3 H3) [] (as ++ capV cap σ) H' s'∧tn i s'.heap∧(∀ b ∈ fp,H' b=none)∧W i n H') ?_ m0 ⟨0,_,H3,List.length_replicate,I4,t3,hfp3,w0⟩
    rintro n s5 ⟨i,as,H5,has,I5,st5,fr5,w5⟩
    show wpAny _ _ ((compTurn (.ListComp elt [⟨tg,iter,ifs,0⟩] scope pos) 0 (.ref it) (.ref D) (compEnvC scope cl s3.heap.objs.size X.env)).onRaise (fun x=>do noteFrame x (compEnvC scope cl s3.heap.objs.size X.env);theTreesLotGoes x)) _ _ s5
    refine wpAny_noted ?_
    rw [compTurn_list]
    refine wpAny_bind (wpAny_standAt (wpAny_bind ?_))
    have bad:∀ {M:Model} {A:Around} {α:Type} {t:Sem α} {P:α→Shared→Prop} {E':Value→Shared→Prop} {s':Shared},wpAny M A t P (fun _ _=>False) s'→wpAny M A t P E' s':=fun h=>wpAny_mono h (fun _ _ q=>q) fun _ _ z=>z.elim
    rcases turn i n H5 w5 with ⟨stop,qn⟩ | ⟨go,step⟩
    · refine bad (thn (T.done (compX X (xs ++ caps) scope cl s3.heap.objs.size fp s3 H3) rfl rfl rfl hc i [] s5 _ H5 (fun _ _=>False) I5 (stat fr5) st5 stop) fun r s6 ⟨hr,I6⟩=>?_)
      subst hr
      exact wpAny_pure (fin H5 _ s6 I6 qn)
    · refine bad (thn (T.item (compX X (xs ++ caps) scope cl s3.heap.objs.size fp s3 H3) rfl rfl rfl hc i [] s5 _ H5 (fun _ _=>False) I5 (stat fr5) st5 go) fun r s6 ⟨u,hr,h6⟩=>?_)
      subst hr
      refine wpAny_bind (bad (thn h6 fun _ s7 ⟨y,H7,I7,r7,y7,st7,fr7⟩=>?_))
      have I7':=I7.pinned (stat fr7) (T.obj _ _ st7)
      have goal:=step y H7 y7 as has
      refine wpAny_bind (bad (thn (hg s3.heap.objs.size fp s3 H3 _ s7 _ H7 y _ _ I7' r7 goal) fun _ s8 ⟨σ8,H8,I8,⟨bs,hbs,eσ⟩,goal8⟩=>?_))
      subst eσ
      refine wpAny_bind (bad (thn (ht s3.heap.objs.size fp s3 H3 _ s8 _ H8 _ I8 goal8) fun okb s9 ⟨H9,I9,q9⟩=>?_))
      have again:∀ {H10:Hp} {s10:Shared} {m':Nat},Inv (compX X (xs ++ caps) scope cl s3.heap.objs.size fp s3 H3) ([] ++ pinsAt fp s7.heap) (bs ++ capV cap σ) H10 s10→m' < n→W (i + 1) m' H10 →
          ∃ m,m < n∧∃ i as H',as.length=xs.length∧Inv (compX X (xs ++ caps) scope cl s3.heap.objs.size fp s3 H3) [] (as ++ capV cap σ) H' s10∧tn i s10.heap∧(∀ b ∈ fp,H' b=none)∧W i m H':=fun {H10 s10 m'} I10 hm w10=>by
        refine ⟨m',hm,i + 1,bs,H10,hbs,I10.unpinned,T.keep _ _ _ st7 fun b hb o e=>(I10.pin (b,o) (List.mem_append_right _ (List.mem_append_right _ (mem_pinsAt hb e)))).1,fun b hb=>?_,w10⟩
        obtain ⟨o,e,d⟩:=T.obj _ _ st7 b hb
        exact (I10.pin (b,o) (List.mem_append_right _ (List.mem_append_right _ (mem_pinsAt hb e)))).2.1
      cases okb with
      | false =>
        rw [if_neg Bool.false_ne_true] at q9
        obtain ⟨m',hm,w9⟩:=q9
        exact wpAny_pure ⟨rfl,again I9 hm w9⟩
      | true =>
        rw [if_pos rfl] at q9
        refine wpAny_bind (wpAny_bind (bad (thn (he s3.heap.objs.size fp s3 H3 _ s9 _ H9 _ I9 q9) fun yv s10 ⟨yy,H10,I10,r10,ys,hys,hlen,m',hm,w10⟩=>?_)))
        refine wpAny_bind (bad (thn (mt_append (X:=compX X (xs ++ caps) scope cl s3.heap.objs.size fp s3 H3) _ s10 _ H10 (.ref D) [yy] (.ref D) [yv] (fun _ H11=>W (i + 1) m' H11) I10 rfl (.cons r10 .nil) ⟨D,ys,yy,rfl,rfl,hys,hlen,w10⟩) fun _ s11 ⟨_,H11,I11,_,q11⟩=>?_))
        exact wpAny_pure (wpAny_pure ⟨rfl,again I11 hm q11⟩)
  refine codeAny_compStart_list loop (T.self _ 0 _ _ _ t3 loop)
theorem pe_lcompG {X:Cx} {elt iter tg:Expr} {xs:List Str} {ifs:List Expr} {scope:Scope} {pos:Pos} {wi:TI} {g:TG} {tt:TT} {te:TE} {cl:List (Str × Addr)} {caps:List Str} {cap:List Nat}
    (O:CompG X xs caps cap scope cl) (hc:X.calm=true) (hi:PI X tg iter wi) (hg:∀ C fp s₀ H₀,PG (compX X (xs ++ caps) scope cl C fp s₀ H₀) tg g)
    (ht:∀ C fp s₀ H₀,PF (compX X (xs ++ caps) scope cl C fp s₀ H₀) ifs tt) (he:∀ C fp s₀ H₀,PE (compX X (xs ++ caps) scope cl C fp s₀ H₀) elt te)
    (hs:∀ x,foldedSetIterable iter X.env x=pure x:=by intro _;rfl) :
    PE X (.ListComp elt [⟨tg,iter,ifs,0⟩] scope pos) (tCompG xs.length wi cap g tt te):=by
  intro pins s σ H Q I h
  rw [eval_ListComp]
  exact compG_core (use:=none) O hc hi hg ht he hs I h fun D C H' s' I' o q=>by
    obtain ⟨m,hn⟩:=o.ns
    exact ⟨m,hn,fun h' hb=>⟨.ref D,H',o.go I' hb,rfl,q⟩⟩
theorem ps_setG {X:Cx} {elt iter tg:Expr} {xs:List Str} {y:Str} {py:Pos} {ifs:List Expr} {scope:Scope} {pos spos:Pos} {wi:TI} {g:TG} {tt:TT} {te:TE} {cl:List (Str × Addr)} {caps:List Str} {cap:List Nat} {i:Nat}
    (O:CompG X xs caps cap scope cl) (hc:X.calm=true) (hi:PI X tg iter wi) (hg:∀ C fp s₀ H₀,PG (compX X (xs ++ caps) scope cl C fp s₀ H₀) tg g)
    (ht:∀ C fp s₀ H₀,PF (compX X (xs ++ caps) scope cl C fp s₀ H₀) ifs tt) (he:∀ C fp s₀ H₀,PE (compX X (xs ++ caps) scope cl C fp s₀ H₀) elt te)
    (hN:X.N.Nodup) (hy:X.N[i]?=some y) (hl:X.env.scope.names.lookup y=some .local)
    (hsw:swapsWith (.ListComp elt [⟨tg,iter,ifs,0⟩] scope pos) (some (.Name y py)) spos.line X.env=pure true:=by rfl)
    (hs:∀ x,foldedSetIterable iter X.env x=pure x:=by intro _;rfl) :
    PS X (.Assign [.Name y py] (.ListComp elt [⟨tg,iter,ifs,0⟩] scope pos) spos) (tAsg (tCompG xs.length wi cap g tt te) (gName i)):=by
  intro pins s σ H D I h
  rw [exec_Assign_Name_used _ _ _ _ hsw]
  refine wpAny_bind (wpAny_standAt (wpAny_bind ?_))
  show wpAny _ X.A (do let _ ← comprehension (.ListComp elt [⟨tg,iter,ifs,0⟩] scope pos) scope X.env _ (newList []) false (eval iter X.env) (some (assign (.Name y py) X.env))) _ _ s
  refine wpAny_bind (thn (compG_core (use:=some (assign (.Name y py) X.env)) (QQ:=fun _ s'=>SP X pins D .next s') O hc hi hg ht he hs I h fun Dd C H' s' I' o q=>?_) fun _ s' hq=>wpAny_pure (wpAny_pure hq))
  obtain ⟨m,hn⟩:=o.ns
  show wpAny _ X.A (assign (.Name y py) X.env (.ref Dd)) _ _ s'
  refine wpAny_assign_Name (store_ok2 (v:=.ref Dd) I' hN hy (.inl hl) rfl (fun s2 I2 sb=>?_) (.inr hl))
  obtain ⟨a,sb,ha⟩:=sb
  have hCa:C≠a:=by
    rcases ha with z | z
    · rw [z];exact o.loc
    · exact Ne.symm (o.cells y a z)
  have o2:OwnAt X pins H' s2 C:=⟨⟨m,hn.sameBut sb hCa⟩,o.free,o.loc,o.above,o.cells,o.pins⟩
  refine ⟨m,hn.sameBut sb hCa,fun h' hb=>?_⟩
  exact ⟨_,H',o2.go I2 hb,q⟩
section
variable {X:Cx} {xs caps:List Str} {cap:List Nat} {scope:Scope} {cl:List (Str × Addr)}
theorem pg_c1 {x:Str} {px:Pos} (O:CompG X [x] caps cap scope cl):∀ C fp s₀ H₀,PG (compX X ([x] ++ caps) scope cl C fp s₀ H₀) (.Name x px) (gName 0):=fun C fp s₀ H₀ =>
  pg_name (X:=compX X ([x] ++ caps) scope cl C fp s₀ H₀) (i:=0) O.nd rfl (.inl (lookup_relabel_local (O.lx x (by simp)))) (.inr (lookup_relabel_local (O.lx x (by simp))))
theorem pg_c2 {x y:Str} {px py pos:Pos} {k:Nat} (O:CompG X [x,y] caps cap scope cl) (hc:X.calm=true):∀ C fp s₀ H₀,PG (compX X ([x,y] ++ caps) scope cl C fp s₀ H₀) (.Tuple [.Name x px,.Name y py] k pos) (gTup X.K 2 (gCons (gName 0) (gCons (gName 1) gNil))):=fun C fp s₀ H₀ =>
  pg_tup (X:=compX X ([x,y] ++ caps) scope cl C fp s₀ H₀) hc (pgs_cons (pg_name (i:=0) O.nd rfl (.inl (lookup_relabel_local (O.lx x (by simp)))) (.inr (lookup_relabel_local (O.lx x (by simp)))))
    (pgs_cons (pg_name (i:=1) O.nd rfl (.inl (lookup_relabel_local (O.lx y (by simp)))) (.inr (lookup_relabel_local (O.lx y (by simp))))) pgs_nil))
end
theorem lookup_in {k:NameKind} {y:Str}:∀ {l:List (Str × NameKind)},l.lookup y=some k→(y,k) ∈ l
  | [],h=>by simp at h
  | (n,j) :: r,h=>by
    cases hx:y == n with
    | true =>
      simp only [List.lookup_cons,hx] at h
      have:y=n:=by simpa using hx
      cases h
      rw [this];exact List.mem_cons_self
    | false =>
      simp only [List.lookup_cons,hx] at h
      exact List.mem_cons_of_mem _ (lookup_in h)
theorem lookupA_in {y:Str} {c:Addr}:∀ {l:List (Str × Addr)},l.lookup y=some c→(y,c) ∈ l
  | [],h=>by simp at h
  | (n,j) :: r,h=>by
    cases hx:y == n with
    | true =>
      simp only [List.lookup_cons,hx] at h
      have:y=n:=by simpa using hx
      cases h
      rw [this];exact List.mem_cons_self
    | false =>
      simp only [List.lookup_cons,hx] at h
      exact List.mem_cons_of_mem _ (lookupA_in h)
theorem in_lookupA {y:Str} {c:Addr}:∀ {l:List (Str × Addr)},(y,c) ∈ l→∃ c',l.lookup y=some c'
  | [],h=>by cases h
  | (n,j) :: r,h=>by
    cases hx:y == n with
    | true=>exact ⟨j,by simp only [List.lookup_cons,hx]⟩
    | false =>
      simp only [List.lookup_cons,hx]
      rcases List.mem_cons.mp h with z | z
      · have:y=n:=congrArg Prod.fst z
        rw [this] at hx
        simp at hx
      · exact in_lookupA z
theorem relabel_free {env:Env} {y:Str} (hf:env.scope.kind=.function) (hy:env.kindOf y=some .cell):∀ {names:List (Str × NameKind)},names.lookup y=some .free →
    (names.map fun (n,k)=>if (k == NameKind.free && env.scope.kind == .function && env.kindOf n == some .cell) then (n,NameKind.cell) else (n,k)).lookup y=some .cell
  | [],h=>by simp at h
  | (n,k) :: r,h=>by
    show List.lookup y ((if (k == NameKind.free && env.scope.kind == .function && env.kindOf n == some .cell)=true then (n,NameKind.cell) else (n,k)) :: _)=_
    cases hx:y == n with
    | true =>
      simp only [List.lookup_cons,hx] at h
      have e:y=n:=by simpa using hx
      cases h
      rw [← e,hf,hy]
      simp
    | false =>
      simp only [List.lookup_cons,hx] at h
      have ih:=relabel_free hf hy h
      split
      · simp only [List.lookup_cons,hx];exact ih
      · simp only [List.lookup_cons,hx];exact ih
def frees (names:List (Str × NameKind)):List Str:=names.filterMap fun z=>if z.2 == NameKind.free then some z.1 else none
theorem closure_go {env:Env}:∀ (names:List (Str × NameKind)) (caps:List Str) (cs:List Addr) (acc:List (Str × Addr)),frees names=caps→caps.map (fun y=>env.cells.lookup y)=cs.map some →
    (forIn names acc fun (x:Str × NameKind) (r:List (Str × Addr))=>(if (x.2 == NameKind.free)=true then do let a ← cellOf env x.1;pure (ForInStep.yield ((x.1,a) :: r)) else pure (ForInStep.yield r):Sem (ForInStep (List (Str × Addr)))))=(pure ((caps.zip cs).reverse ++ acc):Sem (List (Str × Addr)))
  | [],caps,cs,acc,h1,h2=>by
    have:caps=[]:=h1.symm
    subst this
    simp
  | (n,k) :: r,caps,cs,acc,h1,h2=>by
    rw [List.forIn_cons]
    by_cases hk:(k == NameKind.free)=true
    · have e1:caps=n :: frees r:=by
        rw [← h1];unfold frees
        rw [List.filterMap_cons]
        simp only [hk,if_true]
      subst e1
      cases cs with
      | nil=>simp at h2
      | cons c cs =>
        simp only [List.map_cons,List.cons.injEq] at h2
        have hcell:cellOf env n=pure c:=by unfold cellOf;rw [h2.1]
        simp only [hk,if_true,hcell,pure_bind]
        rw [closure_go r _ cs ((n,c) :: acc) rfl h2.2]
        simp
    · have e1:caps=frees r:=by
        rw [← h1];unfold frees
        rw [List.filterMap_cons]
        simp only [hk]
        rfl
      subst e1
      simp only [hk,if_false,pure_bind]
      exact closure_go r _ cs acc rfl h2
theorem closureFor_many {env:Env} {scope:Scope} {caps:List Str} {cs:List Addr} (hf:frees scope.names=caps) (hc:caps.map (fun y=>env.cells.lookup y)=cs.map some):closureFor scope env=pure (caps.zip cs).reverse:=by
  have h:=closure_go (env:=env) scope.names caps cs [] hf hc
  rw [List.append_nil] at h
  unfold closureFor
  simp only [bind_pure]
  exact h
theorem CompG.many {X:Cx} {xs caps:List Str} {cap:List Nat} {cs:List Addr} {scope:Scope} (hk:scope.kind=.function) (hf:X.env.scope.kind=.function) (hfr:frees scope.names=caps)
    (hnc:∀ z ∈ scope.names,z.2≠.cell) (hl:∀ y ∈ scope.names,y.2=.local→scope.names.lookup y.1=some .local) (hlx:∀ x ∈ xs,scope.names.lookup x=some .local) (hnd:(xs ++ caps).Nodup)
    (hfl:∀ y ∈ caps,scope.names.lookup y=some .free) (hce:caps.map (fun y=>X.env.scope.names.lookup y)=caps.map fun _=>some .cell) (hcs:caps.map (fun y=>X.env.cells.lookup y)=cs.map some)
    (hN:cap.map (fun j=>X.N[j]?)=caps.map some):CompG X xs caps cap scope (caps.zip cs).reverse:=by
  have hlen:caps.length=cs.length:=by simpa using congrArg List.length hcs
  have at_cs:∀ (i:Nat) (y:Str),caps[i]?=some y→∃ c,cs[i]?=some c∧X.env.cells.lookup y=some c:=fun i y h=>by
    have e:=congrArg (fun l=>l[i]?) hcs
    simp only [List.getElem?_map,h] at e
    cases q:cs[i]? with
    | none=>rw [q] at e;simp at e
    | some c=>rw [q] at e;exact ⟨c,rfl,by simpa using e⟩
  refine ⟨closureFor_many hfr hcs,hnc,hk,hl,hlx,hnd,fun y c h=>?_,fun y h=>?_,?_,fun i y h=>?_⟩
  · have hm:=lookupA_in h
    rw [List.mem_reverse] at hm
    obtain ⟨i,hi,e⟩:=List.getElem_of_mem hm
    have hi1:i < caps.length:=by rw [List.length_zip] at hi;omega
    have hi2:i < cs.length:=by rw [List.length_zip] at hi;omega
    rw [List.getElem_zip] at e
    obtain ⟨c',e1,e2⟩:=at_cs i caps[i] (List.getElem?_eq_getElem hi1)
    have e3:caps[i]=y:=congrArg Prod.fst e
    have e4:cs[i]=c:=congrArg Prod.snd e
    rw [List.getElem?_eq_getElem hi2,e4] at e1
    cases e1
    rw [← e3];exact e2
  · have hm:y ∈ caps:=by
      have aux:∀ k:NameKind,(k=.cell∨k=.free)→(relabel scope X.env).names.lookup y=some k→y ∈ caps:=fun k hk h=>by
        have h1:=lookup_in h
        obtain ⟨z,hz,e⟩:=List.mem_map.mp h1
        obtain ⟨n,kk⟩:=z
        have hfree:kk=.free∧n=y:=by
          dsimp only at e
          split at e
          · rename_i q
            simp only [Bool.and_eq_true] at q
            exact ⟨by simpa using q.1.1,congrArg Prod.fst e⟩
          · have e2:kk=k:=congrArg Prod.snd e
            refine ⟨?_,congrArg Prod.fst e⟩
            rcases hk with z | z
            · exact absurd (e2.trans z) (hnc _ hz)
            · exact e2.trans z
        rw [← hfr]
        refine List.mem_filterMap.mpr ⟨(n,kk),hz,?_⟩
        rw [hfree.1,hfree.2];rfl
      rcases h with h | h
      · exact aux _ (.inl rfl) h
      · exact aux _ (.inr rfl) h
    obtain ⟨i,hi,e⟩:=List.getElem_of_mem hm
    have hi2:i < cs.length:=by omega
    refine in_lookupA (c:=cs[i]) ?_
    rw [List.mem_reverse]
    have hiz:i < (caps.zip cs).length:=by rw [List.length_zip];omega
    have:=List.getElem_mem hiz
    rw [List.getElem_zip,e] at this
    exact this
  · have:=congrArg List.length hN
    simpa using this
  · have e:=congrArg (fun l=>l[i]?) hN
    simp only [List.getElem?_map,h] at e
    have hm:=List.mem_of_getElem? h
    cases q:cap[i]? with
    | none=>rw [q] at e;simp at e
    | some j =>
      rw [q] at e
      have hcell:X.env.scope.names.lookup y=some .cell:=by
        have e2:=congrArg (fun l=>l[i]?) hce
        simpa only [List.getElem?_map,h,Option.map_some,Option.some.injEq] using e2
      exact ⟨j,rfl,by simpa using e,hcell,relabel_free hf hcell (hfl y hm)⟩
theorem compG_drive {J:It} {n N:Nat} {cs:St} {g:TG} {tt:TT} {te:TE} {H1:Hp} {acc:Addr} {Q:Hp→Prop} (Pv:Nat→List V→Hp→Prop) (h0:Pv 0 [] (upd H1 acc (.lst [])))
    (hstop:∀ ys H,Pv N ys H→J.stop N H∧Q H)
    (hstep:∀ i ys H,i < N→Pv i ys H→J.go i H∧∀ x H3,J.yld i H x H3→∀ as:St,as.length=n→g x (as ++ cs) H3 fun σ4 H4=>(∃ bs:St,bs.length=n∧σ4=bs ++ cs)∧tt σ4 H4 fun ok H5=>if ok=true then te σ4 H5 (compN N Pv acc i (N - i)) else ∃ m',m' < N - i∧compW N Pv (i + 1) m' H5) :
    ∃ W:Nat→Nat→Hp→Prop,(∃ m,W 0 m (upd H1 acc (.lst [])))∧∀ i m H2,W i m H2 →
      (J.stop i H2∧Q H2)∨(J.go i H2∧∀ x H3,J.yld i H2 x H3→∀ as:St,as.length=n→g x (as ++ cs) H3 fun σ4 H4=>(∃ bs:St,bs.length=n∧σ4=bs ++ cs)∧tt σ4 H4 fun ok H5=>if ok=true then
        te σ4 H5 (fun y H6=>∃ ys,H6 acc=some (.lst ys)∧ys.length < sizeLine∧∃ m',m' < m∧W (i + 1) m' (upd H6 acc (.lst (ys ++ [y]))))
        else ∃ m',m' < m∧W (i + 1) m' H5):=by
  refine ⟨compW N Pv,⟨N - 0,rfl,Nat.zero_le _,[],h0⟩,?_⟩
  rintro i m H2 ⟨rfl,hi,ys,p⟩
  by_cases h:i < N
  · exact .inr (hstep i ys H2 h p)
  · have e:i=N:=by omega
    subst e
    exact .inl (hstop ys H2 p)
abbrev CKon (N:Nat) (Pv:Nat→List V→Hp→Prop) (acc:Addr) (i:Nat) (te:TE) (σ:St):Bool→Hp→Prop:=fun ok H5=>if ok=true then te σ H5 (compN N Pv acc i (N - i)) else ∃ m',m' < N - i∧compW N Pv (i + 1) m' H5
abbrev CGoal (J:It) (n:Nat) (cs:St) (g:TG) (tt:TT) (te:TE) (H1:Hp) (acc:Addr) (Q:Hp→Prop):Prop :=
  ∃ W:Nat→Nat→Hp→Prop,(∃ m,W 0 m (upd H1 acc (.lst [])))∧∀ i m H2,W i m H2 →
      (J.stop i H2∧Q H2)∨(J.go i H2∧∀ x H3,J.yld i H2 x H3→∀ as:St,as.length=n→g x (as ++ cs) H3 fun σ4 H4=>(∃ bs:St,bs.length=n∧σ4=bs ++ cs)∧tt σ4 H4 fun ok H5=>if ok=true then
        te σ4 H5 (fun y H6=>∃ ys,H6 acc=some (.lst ys)∧ys.length < sizeLine∧∃ m',m' < m∧W (i + 1) m' (upd H6 acc (.lst (ys ++ [y]))))
        else ∃ m',m' < m∧W (i + 1) m' H5)
section
variable {K:PySem.W.Frag} {a b acc:Addr} {xs zs:List V} {tt:TT} {te:TE} {cs:St} {H1:Hp} {Q:Hp→Prop}
theorem c1_list (Pv:Nat→List V→Hp→Prop) (h0:Pv 0 [] (upd H1 acc (.lst []))) (hl:∀ i ys H,i≤xs.length→Pv i ys H→SqL K H a xs)
    (hs:∀ i x ys H,i < xs.length→xs[i]?=some x→Pv i ys H→tt (some x :: cs) H (CKon xs.length Pv acc i te (some x :: cs))) (hd:∀ ys H,Pv xs.length ys H→Q H):CGoal (Itl K a) 1 cs (gName 0) tt te H1 acc Q:=by
  refine compG_drive Pv h0 (fun ys H p=>⟨⟨xs,hl _ _ _ (Nat.le_refl _) p,Nat.le_refl _⟩,hd ys H p⟩) fun i ys H hi p=>⟨⟨xs,xs[i],hl _ _ _ (Nat.le_of_lt hi) p,List.getElem?_eq_getElem hi⟩,?_⟩
  rintro x H3 ⟨rfl,hx⟩ as has
  obtain ⟨a0,rfl⟩ : ∃ a0,as=[a0]:=List.length_eq_one_iff.mp has
  exact ⟨⟨[some x],rfl,rfl⟩,hs i x ys _ hi (hx xs (hl _ _ _ (Nat.le_of_lt hi) p)) p⟩
theorem c1_tup (Pv:Nat→List V→Hp→Prop) (h0:Pv 0 [] (upd H1 acc (.lst []))) (hl:∀ i ys H,i≤xs.length→Pv i ys H→SqT K H a xs)
    (hs:∀ i x ys H,i < xs.length→xs[i]?=some x→Pv i ys H→tt (some x :: cs) H (CKon xs.length Pv acc i te (some x :: cs))) (hd:∀ ys H,Pv xs.length ys H→Q H):CGoal (Itt K a) 1 cs (gName 0) tt te H1 acc Q:=by
  refine compG_drive Pv h0 (fun ys H p=>⟨⟨xs,hl _ _ _ (Nat.le_refl _) p,Nat.le_refl _⟩,hd ys H p⟩) fun i ys H hi p=>⟨⟨xs,xs[i],hl _ _ _ (Nat.le_of_lt hi) p,List.getElem?_eq_getElem hi⟩,?_⟩
  rintro x H3 ⟨rfl,hx⟩ as has
  obtain ⟨a0,rfl⟩ : ∃ a0,as=[a0]:=List.length_eq_one_iff.mp has
  exact ⟨⟨[some x],rfl,rfl⟩,hs i x ys _ hi (hx xs (hl _ _ _ (Nat.le_of_lt hi) p)) p⟩
theorem c1_range {lo:Int} {n:Nat} (Pv:Nat→List V→Hp→Prop) (h0:Pv 0 [] (upd H1 acc (.lst [])))
    (hs:∀ i ys H,i < n→Pv i ys H→tt (some (.int (lo + i)) :: cs) H (CKon n Pv acc i te (some (.int (lo + i)) :: cs))) (hd:∀ ys H,Pv n ys H→Q H):CGoal (Itr lo n) 1 cs (gName 0) tt te H1 acc Q:=by
  refine compG_drive Pv h0 (fun ys H p=>⟨Nat.le_refl _,hd ys H p⟩) fun i ys H hi p=>⟨hi,?_⟩
  rintro x H3 ⟨rfl,rfl⟩ as has
  obtain ⟨a0,rfl⟩ : ∃ a0,as=[a0]:=List.length_eq_one_iff.mp has
  exact ⟨⟨[some _],rfl,rfl⟩,hs i ys _ hi p⟩
theorem len_two {as:St} (h:as.length=2):∃ a0 a1,as=[a0,a1]:=by
  match as,h with
  | [a0,a1],_=>exact ⟨a0,a1,rfl⟩
end
end L2
namespace L2
open PySem PySem.Spec PyProof.Rows
section
variable {κ:Type} [DecidableEq κ]
def valV (kvs:List (κ × V)) (k:κ):Option V:=(kvs.find? fun kv=>decide (kv.1=k)).map (·.2)
def putK (kvs:List (κ × V)) (k:κ) (v:V):List (κ × V) :=
  if (kvs.any fun kv=>decide (kv.1=k))=true then kvs.map (fun kv=>if kv.1=k then (kv.1,v) else kv) else kvs ++ [(k,v)]
theorem valV_pos {p:κ × V} {r:List (κ × V)} {k:κ} (e:p.1=k):valV (p :: r) k=some p.2:=by simp [valV,List.find?_cons,e]
theorem valV_neg {p:κ × V} {r:List (κ × V)} {k:κ} (e:¬ p.1=k):valV (p :: r) k=valV r k:=by simp [valV,List.find?_cons,e]
theorem valV_any (k:κ):∀ kvs:List (κ × V),(kvs.any fun kv=>decide (kv.1=k))=(valV kvs k).isSome
  | []=>rfl
  | p :: r=>by
    rw [List.any_cons]
    by_cases e:p.1=k
    · simp only [valV_pos e,decide_eq_true e,Bool.true_or,Option.isSome_some]
    · rw [valV_neg e,decide_eq_false e,Bool.false_or];exact valV_any k r
theorem length_putK (kvs:List (κ × V)) (k:κ) (v:V):(putK kvs k v).length≤kvs.length + 1:=by
  unfold putK
  split
  · rw [List.length_map];omega
  · rw [List.length_append,List.length_cons,List.length_nil];omega
theorem putK_new {kvs:List (κ × V)} {k:κ} (v:V) (h:valV kvs k=none):putK kvs k v=kvs ++ [(k,v)]:=by
  unfold putK
  rw [valV_any,h]
  exact if_neg (by decide)
theorem RelO.isSome_eq {o:Option V} {u:Option Value} (r:RelO o u):o.isSome=u.isSome:=by
  cases o with
  | none=>cases u with
    | none=>rfl
    | some _=>exact (show False from r).elim
  | some _=>cases u with
    | none=>exact (show False from r).elim
    | some _=>rfl
theorem RelO.getD {o:Option V} {u:Option Value} {d:V} {d':Value} (r:RelO o u) (rd:RelV d d'):RelV (o.getD d) (u.getD d'):=by
  cases o with
  | none=>cases u with
    | none=>exact rd
    | some _=>exact (show False from r).elim
  | some _=>cases u with
    | none=>exact (show False from r).elim
    | some _=>exact r
theorem KV.val {kvs:List (κ × V)} {vs:List (κ × Value)} (r:KV kvs vs) (k:κ):RelO (valV kvs k) (valueAt vs k):=by
  unfold KV at r
  induction r with
  | nil=>exact True.intro
  | @cons p q ps qs h t ih =>
    obtain ⟨h1,h2⟩:=h
    by_cases e:p.1=k
    · have e':q.1=k:=h1.symm.trans e
      have b:valueAt (q :: qs) k=some q.2:=by simp [valueAt,List.find?_cons,e']
      rw [valV_pos e,b];exact h2
    · have e':¬ q.1=k:=fun z=>e (h1.trans z)
      have b:valueAt (q :: qs) k=valueAt qs k:=by simp [valueAt,List.find?_cons,e']
      rw [valV_neg e,b];exact ih
theorem KV.any {kvs:List (κ × V)} {vs:List (κ × Value)} (r:KV kvs vs) (k:κ):(kvs.any fun kv=>decide (kv.1=k))=vs.any fun kv=>decide (kv.1=k):=by
  unfold KV at r
  induction r with
  | nil=>rfl
  | cons h t ih=>rw [List.any_cons,List.any_cons,ih,h.1]
theorem KV.repl {kvs:List (κ × V)} {vs:List (κ × Value)} (r:KV kvs vs) (k:κ) {y:V} {u:Value} (ry:RelV y u) :
    KV (kvs.map fun kv=>if kv.1=k then (kv.1,y) else kv) (vs.map fun kv=>if kv.1=k then (kv.1,u) else kv):=by
  unfold KV at r ⊢
  induction r with
  | nil=>exact .nil
  | @cons p q ps qs h t ih =>
    rw [List.map_cons,List.map_cons]
    refine .cons ?_ ih
    obtain ⟨h1,h2⟩:=h
    by_cases e:p.1=k
    · rw [if_pos e,if_pos (h1.symm.trans e)];exact ⟨h1,ry⟩
    · rw [if_neg e,if_neg (fun z=>e (h1.trans z))];exact ⟨h1,h2⟩
theorem KV.put {kvs:List (κ × V)} {vs:List (κ × Value)} (r:KV kvs vs) (k:κ) {y:V} {u:Value} (ry:RelV y u):KV (putK kvs k y) (stored vs k u):=by
  unfold putK stored
  rw [r.any k]
  by_cases e:(vs.any fun kv=>decide (kv.1=k))=true
  · rw [if_pos e,if_pos e];exact r.repl k ry
  · rw [if_neg e,if_neg e];exact Paired.snoc r ⟨rfl,ry⟩
theorem KV.length {kvs:List (κ × V)} {vs:List (κ × Value)} (r:KV kvs vs):kvs.length=vs.length:=Paired.length r
end
theorem kV_is {P:Program} {w:World} {k:Key} {u:Value} (r:RelV (kV k) u):(mixKind P w).is k u=true:=by
  cases k with
  | inl i=>obtain ⟨t,e⟩:=(show ∃ t,u=Value.int i t from r);subst e;exact mixKind_int P w i t
  | inr x=>obtain ⟨t,e⟩:=(show ∃ t,u=Value.str x t from r);subst e;exact mixKind_str P w x t
theorem items_are {P:Program} {w:World}:∀ {ks:List Key} {us:List Value},Vals (ks.map kV) us→ItemsAre (mixKind P w) ks us
  | [],_,r=>by rw [List.map_nil] at r;cases r;exact .nil
  | k :: ks,_,r=>by
    rw [List.map_cons] at r
    cases r with
    | cons h t=>exact .cons (kV_is h) (items_are t)
abbrev KT (H:Hp):List (List Key × V)→List (List Key × Addr × Value)→Prop:=Paired fun p q=>p.1=q.1∧H q.2.1=some (.tup (p.1.map kV))∧RelV p.2 q.2.2
theorem KT.val {H:Hp} {kvs:List (List Key × V)} {xs:List (List Key × Addr × Value)} (r:KT H kvs xs) (k:List Key):RelO (valV kvs k) ((atKey xs k).map (·.2)):=by
  induction r with
  | nil=>exact True.intro
  | @cons p q ps qs h t ih =>
    obtain ⟨h1,_,h2⟩:=h
    by_cases e:p.1=k
    · have e':q.1=k:=h1.symm.trans e
      have b:atKey (q :: qs) k=some q.2:=by simp [atKey,List.find?_cons,e']
      rw [valV_pos e,b];exact h2
    · have e':¬ q.1=k:=fun z=>e (h1.trans z)
      have b:atKey (q :: qs) k=atKey qs k:=by simp [atKey,List.find?_cons,e']
      rw [valV_neg e,b];exact ih
theorem KT.repl {H:Hp} {kvs:List (List Key × V)} {xs:List (List Key × Addr × Value)} (r:KT H kvs xs) (k:List Key) {y:V} {u:Value} (ry:RelV y u) :
    KT H (kvs.map fun kv=>if kv.1=k then (kv.1,y) else kv) (xs.map (putAt k u)):=by
  induction r with
  | nil=>exact .nil
  | @cons p q ps qs h t ih =>
    rw [List.map_cons,List.map_cons]
    refine .cons ?_ ih
    obtain ⟨h1,h2,h3⟩:=h
    unfold putAt
    by_cases e:p.1=k
    · rw [if_pos e,if_pos (h1.symm.trans e)];exact ⟨h1,h2,ry⟩
    · rw [if_neg e,if_neg (fun z=>e (h1.trans z))];exact ⟨h1,h2,h3⟩
theorem KT.put {H:Hp} {kvs:List (List Key × V)} {xs:List (List Key × Addr × Value)} (r:KT H kvs xs) (k:List Key) {b:Addr} {y:V} {u:Value} (hb:H b=some (.tup (k.map kV))) (ry:RelV y u) :
    KT H (putK kvs k y) (storedH xs k b u):=by
  have e:(kvs.any fun kv=>decide (kv.1=k))=(atKey xs k).isSome:=by
    rw [valV_any,(r.val k).isSome_eq,Option.isSome_map]
  unfold putK storedH
  rw [e]
  by_cases q:(atKey xs k).isSome=true
  · rw [if_pos q,if_pos q];exact r.repl k ry
  · rw [if_neg q,if_neg q];exact Paired.snoc r ⟨rfl,hb,ry⟩
theorem KT.keeps {H H':Hp} {kvs:List (List Key × V)} {xs:List (List Key × Addr × Value)} (r:KT H kvs xs) (ht:∀ b ys,H b=some (.tup ys)→H' b=some (.tup ys)):KT H' kvs xs :=
  Paired.mapP r fun _ _ z=>⟨z.1,ht _ _ z.2.1,z.2.2⟩
section
variable {P:Program} {w:World} {H:Hp} {h:Heap} {a:Addr}
theorem rd_of {u:HO} (ok:HOk P w H h) (e:Rd H a u):ObjOk P w H h a u:=e.ok ok
theorem dk_rd {kvs:List (Key × V)} (ok:HOk P w H h) (e:Rd H a (.dK kvs)):kvs.length≤sizeLine∧(a == sysModules)=false∧∃ vs,KV kvs vs∧h.DictOf (mixKind P w) a vs :=
  show ObjOk P w H h a (.dK kvs) from rd_of ok e
theorem dk_of {kvs:List (Key × V)} (ok:HOk P w H h) (e:H a=some (.dK kvs)):kvs.length≤sizeLine∧(a == sysModules)=false∧∃ vs,KV kvs vs∧h.DictOf (mixKind P w) a vs:=dk_rd ok (.inl e)
theorem key_of {ks:List Key} (ok:HOk P w H h) (e:H a=some (.tup (ks.map kV))):(tupleKind (mixKind P w)).is h ks a:=by
  obtain ⟨_,its,r,o,h1,h2,n,h3⟩:=(show ObjOk P w H h a (.tup (ks.map kV)) from ok a _ e)
  exact ⟨o,its.toArray,n,h1,h2,h3,by simpa using items_are r⟩
theorem dt_rd {kvs:List (List Key × V)} (ok:HOk P w H h) (e:Rd H a (.dT kvs)):kvs.length≤sizeLine∧(a == sysModules)=false ∧
    ∃ xs,KT H kvs xs∧h.DictOfH (tupleKind (mixKind P w)) a xs:=by
  obtain ⟨z,y,xs,r,o,es,ep,h1,h2,h3,h4,h5⟩:=(show ObjOk P w H h a (.dT kvs) from rd_of ok e)
  refine ⟨z,y,xs,r,o,es,ep,h1,h2,h3,h4,fun x hx=>?_,h5⟩
  have all:∀ {l:List (List Key × V)} {m:List (List Key × Addr × Value)},KT H l m→∀ x ∈ m,(tupleKind (mixKind P w)).is h x.1 x.2.1:=by
    intro l m q
    induction q with
    | nil=>intro x hx;exact nomatch hx
    | @cons p q ps qs hq t ih =>
      intro x hx
      rcases List.mem_cons.mp hx with e | hx
      · subst e
        exact key_of ok (by rw [← hq.1];exact hq.2.1)
      · exact ih x hx
  exact all r x hx
theorem dt_of {kvs:List (List Key × V)} (ok:HOk P w H h) (e:H a=some (.dT kvs)):kvs.length≤sizeLine∧(a == sysModules)=false ∧
    ∃ xs,KT H kvs xs∧h.DictOfH (tupleKind (mixKind P w)) a xs:=dt_rd ok (.inl e)
end
def DGet (H:Hp) (a:Addr) (y:V) (r:Option V):Prop :=
  (∃ kvs k,Rd H a (.dK kvs)∧y=kV k∧r=valV kvs k)∨∃ kvs k b,Rd H a (.dT kvs)∧y=.ref b∧H b=some (.tup (k.map kV))∧r=valV kvs k
def DPut (H:Hp) (a:Addr) (y v:V) (H':Hp):Prop :=
  (∃ kvs k,H a=some (.dK kvs)∧y=kV k∧kvs.length < sizeLine∧H'=upd H a (.dK (putK kvs k v))) ∨
  ∃ kvs k b,H a=some (.dT kvs)∧y=.ref b∧H b=some (.tup (k.map kV))∧kvs.length < sizeLine∧H'=upd H a (.dT (putK kvs k v))
theorem DGet.k {H:Hp} {a:Addr} {kvs:List (Key × V)} {k:Key} (e:H a=some (.dK kvs)):DGet H a (kV k) (valV kvs k):=.inl ⟨kvs,k,.inl e,rfl,rfl⟩
section
variable {X:Cx} {pins:List (Addr × Obj)} {σ:St} {H:Hp} {s:Shared} {a:Addr} {y v:V} {u r:Value} {o:Option V} {A:Around} {E:Value→Shared→Prop}
theorem Inv.big (I:Inv X pins σ H s):sysModules < s.heap.objs.size:=by
  have h:mainGlobals < s.heap.objs.size:=(I.mod.glob.keeps I.bk).lt
  exact Nat.lt_trans (by decide) h
theorem d_getItem {Q:Value→Shared→Prop} (hu:A.units + 1 < cLine) (I:Inv X pins σ H s) (g:DGet H a y (some v)) (ry:RelV y u) (h:∀ w' s',Inv X pins σ H s'→RelV v w'→Q w' s') :
    wpAny (model X.prog X.w) A (getItem (.ref a) u) Q E s:=by
  rcases g with ⟨kvs,k,e,ey,l⟩ | ⟨kvs,k,b,e,ey,eb,l⟩
  · subst ey
    obtain ⟨z,hd,vs,rel,dd⟩:=dk_rd I.hok e
    obtain ⟨w',hw,rw'⟩:=RelO.some_of (v:=v) (o:=valueAt vs k) (by rw [l];exact rel.val k)
    exact wpAny_getItem_of (kV_is ry) dd.mapOf hw (h w' _ (I.tok _) rw')
  · subst ey
    cases (show u=Value.ref b from ry)
    obtain ⟨z,hd,xs,rel,dd⟩:=dt_rd I.hok e
    obtain ⟨w',hw,rw'⟩:=RelO.some_of (v:=v) (o:=(atKey xs k).map (·.2)) (by rw [l];exact rel.val k)
    obtain ⟨p,hp,hp2⟩:=Option.map_eq_some_iff.mp hw
    refine wpAny_getItem_heap (tupleKind_room_in1 hu) (key_of I.hok eb) dd hp ?_
    rw [hp2]
    exact h w' _ (I.tok _) rw'
theorem d_notIn {Q:Value→Shared→Prop} (hu:A.units + 1 < cLine) (I:Inv X pins σ H s) (g:DGet H a y o) (ry:RelV y u) (h:∀ s',Inv X pins σ H s'→Q (.bool (!o.isSome)) s') :
    wpAny (model X.prog X.w) A (compareOp .NotIn u (.ref a)) Q E s:=by
  rcases g with ⟨kvs,k,e,ey,l⟩ | ⟨kvs,k,b,e,ey,eb,l⟩
  · subst ey
    obtain ⟨z,hd,vs,rel,dd⟩:=dk_rd I.hok e
    refine wpAny_notIn_of (kV_is ry) hd dd.mapOf ?_
    rw [← (rel.val k).isSome_eq,← l]
    exact h _ (I.tok _)
  · subst ey
    cases (show u=Value.ref b from ry)
    obtain ⟨z,hd,xs,rel,dd⟩:=dt_rd I.hok e
    refine wpAny_notIn_heap (tupleKind_room_in1 hu) (key_of I.hok eb) hd dd ?_
    have q:=(rel.val k).isSome_eq
    rw [Option.isSome_map] at q
    rw [← q,← l]
    exact h _ (I.tok _)
theorem d_write {h':Heap} {t':Nat} {ob:HO} (I:Inv X pins σ H s) (mu:Mut (H a)) (hs:Heap.SameBut a s.heap h') (he:∃ q,h'.get? a=some q) (new:ObjOk X.prog X.w (upd H a ob) h' a ob) :
    Inv X pins σ (upd H a ob) { s with heap:=h',toks:=t' } :=
  I.write (x:=a) (e:=a) mu (.inl rfl) (fun b q hb z=>(hs.2 b hb).trans z) he new
theorem dk_new {P:Program} {w:World} {H':Hp} {h':Heap} {kvs:List (Key × V)} {vs:List (Key × Value)} (z:kvs.length≤sizeLine) (hd:(a == sysModules)=false) (rel:KV kvs vs) (dd:h'.DictOf (mixKind P w) a vs) :
    ObjOk P w H' h' a (.dK kvs):=⟨z,hd,vs,rel,dd⟩
theorem d_setItem {H':Hp} {Q:Unit→Shared→Prop} (hu:A.units + 1 < cLine) (I:Inv X pins σ H s) (g:DPut H a y v H') (ry:RelV y u) (rv:RelV v r) (h:∀ s',Inv X pins σ H' s'→Q () s') :
    wpAny (model X.prog X.w) A (setItem (.ref a) u r) Q E s:=by
  rcases g with ⟨kvs,k,e,ey,l,eH⟩ | ⟨kvs,k,b,e,ey,eb,l,eH⟩
  · subst ey eH
    obtain ⟨z,hd,vs,rel,dd⟩:=dk_of I.hok e
    have hz:vs.length≤sizeLine:=by rw [← rel.length];exact z
    have hl:(putK kvs k v).length≤sizeLine:=by have:=length_putK kvs k v;omega
    refine wpAny_setItem_pairs (hsz:=hz) (kV_is ry) dd fun h' dd' hs=>h _ ?_
    have he:∃ q,h'.get? a=some q:=let ⟨q,_,_,hq,_⟩:=dd';⟨q,hq⟩
    exact d_write I (by rw [e];exact True.intro) hs he (dk_new hl hd (rel.put k rv) dd')
  · subst ey eH
    cases (show u=Value.ref b from ry)
    obtain ⟨z,hd,xs,rel,dd⟩:=dt_of I.hok e
    have hz:xs.length≤sizeLine:=by rw [← Paired.length rel];exact z
    have hl:(putK kvs k v).length≤sizeLine:=by have:=length_putK kvs k v;omega
    refine wpAny_setItem_heap (hsz:=hz) (tupleKind_room_in1 hu) (key_of I.hok eb) dd fun h' dd' hs=>h _ ?_
    obtain ⟨q,es,ep,hq,h2,h3,h4,_,h5⟩:=dd'
    refine d_write I (by rw [e];exact True.intro) hs ⟨q,hq⟩ ⟨hl,hd,_,(rel.put k eb rv).keeps fun c ys ec=>?_,q,es,ep,hq,h2,h3,h4,h5⟩
    rw [upd_ne (ne_of ec e (fun z=>nomatch z))]
    exact ec
end
section
variable {X:Cx} {pins:List (Addr × Obj)} {σ:St} {H:Hp} {s:Shared} {a:Addr} {kvs:List (Key × V)} {k:Key} {u:Value} {A:Around} {E:Value→Shared→Prop}
end
def NoSl (i:Expr):Prop:=∀ ov iv,subscripted i false ov iv=operate [ov,iv] (getItem ov iv)
theorem subD_of {prog:Program} {w:World} {A:Around} {E:Value→Shared→Prop} {s:Shared} {env:Env} {value slice:Expr} {pos:Pos} {T id:String} {Q:Value→Shared→Prop}
    (hl:typeLookup (.type T) "__getitem__" = pure (some (.builtin id))) (hs:NoSl slice)
    (h:wpAny (model prog w) A (eval value env) (fun o s₁=>wpAny (model prog w) A (eval slice env) (fun i s₂=>s₂.TypeIs o T∧wpAny (model prog w) A (getItem o i) Q E s₂) E s₁) E s) :
    wpAny (model prog w) A (eval (.Subscript value slice pos) env) Q E s:=by
  refine Subscript_ (wpAny_mono h (fun o s₁ h₁=>wpAny_mono h₁ (fun i s₂ h₂=>?_) fun _ _ x=>x) fun _ _ x=>x)
  obtain ⟨hT,h₂⟩:=h₂
  unfold subscriptTail
  refine wpAny_bind ?_
  rw [getitemInPython_of_ne hT.not_modules]
  refine wpAny_bind (wpAny_specialOf hT hl ?_)
  have fin:wpAny (model prog w) A (subscripted slice false o i) (fun r s₃=>wpAny (model prog w) A (letTemporaryGo value o r >>= fun _=>pure r) Q E s₃) E s₂:=by
    rw [hs o i]
    exact wpAny_operating (wpAny_mono h₂ (fun r s₃ h₃=>wpAny_bind (wpAny_letTemporaryGo (wpAny_pure h₃))) fun _ _ x=>x)
  first
    | exact wpAny_pure (wpAny_bind fin)
    | exact wpAny_bind (wpAny_pure (wpAny_bind fin))
    | exact wpAny_bind fin
theorem dict_typeIs {X:Cx} {pins:List (Addr × Obj)} {σ:St} {H:Hp} {s:Shared} {a:Addr} {y:V} {o:Option V} (I:Inv X pins σ H s) (g:DGet H a y o):s.TypeIs (.ref a) "dict" := by
  rcases g with ⟨kvs,k,e,_,_⟩ | ⟨kvs,k,b,e,_,_,_⟩
  · obtain ⟨_,_,vs,_,dd⟩:=dk_rd I.hok e
    exact dd.typeIs
  · obtain ⟨_,_,xs,_,dd⟩:=dt_rd I.hok e
    exact dd.typeIs
def tDGet (td ty:TE):TE:=fun σ H Q=>td σ H fun x H1=>ty σ H1 fun y H2=>∃ a v,x=.ref a∧DGet H2 a y (some v)∧Q v H2
def tDNotIn (ty td:TE):TE:=fun σ H Q=>ty σ H fun y H1=>td σ H1 fun x H2=>∃ a o,x=.ref a∧DGet H2 a y o∧Q (.bl (!o.isSome)) H2
def sDPut (td ty tv:TE):TS:=fun D σ H=>tv σ H fun v H1=>td σ H1 fun x H2=>ty σ H2 fun y H3=>∃ a H4,x=.ref a∧DPut H3 a y v H4∧D.nx σ H4
section
variable {X:Cx} {o i e value:Expr} {pos pos' tpos:Pos} {td ty tv:TE}
theorem pe_dget (hu:X.A.units + 1 < cLine) (ho:PE X o td) (hi:PE X i ty) (hs:NoSl i):PE X (.Subscript o i pos) (tDGet td ty):=by
  intro pins s σ H Q I h
  refine subD_of PySem.F.slot_dict_getitem.lookup hs (thn (ho pins s σ H _ I h) fun u s1 ⟨x,H1,I1,rx,q1⟩=>thn (hi pins s1 σ H1 _ I1 q1) fun iv s2 ⟨y,H2,I2,ry,a,v,ex,g,q2⟩=>?_)
  subst ex
  obtain rfl:u=Value.ref a:=rx
  exact ⟨dict_typeIs I2 g,d_getItem hu I2 g ry fun w' s3 I3 rw'=>⟨v,H2,I3,rw',q2⟩⟩
theorem pc_dnotin (hu:X.A.units + 1 < cLine) (hi:PE X i ty) (ho:PE X o td):PC X .NotIn i o (tDNotIn ty td):=by
  intro pins s σ H Q I h
  refine thn (hi pins s σ H _ I h) fun iv s1 ⟨y,H1,I1,ry,q1⟩=>thn (ho pins s1 σ H1 _ I1 q1) fun u s2 ⟨x,H2,I2,rx,a,ov,ex,g,q2⟩=>?_
  subst ex
  obtain rfl:u=Value.ref a:=rx
  exact d_notIn hu I2 g ry fun s3 I3=>⟨.bl (!ov.isSome),H2,I3,rfl,q2⟩
theorem ps_dput (hu:X.A.units + 1 < cLine) (ho:PE X o td) (hi:PE X i ty) (hv:PE X value tv) (hs:swapsWith value (some (.Subscript o i pos')) pos.line X.env=pure false) :
    PS X (.Assign [.Subscript o i pos'] value pos) (sDPut td ty tv):=by
  intro pins s σ H D I h
  refine wpAny_Assign_Subscript (thn (hv pins s σ H _ I h) fun r s1 ⟨v,H1,I1,rv,q1⟩=>thn (ho pins s1 σ H1 _ I1 q1) fun u s2 ⟨x,H2,I2,rx,q2⟩=>thn (hi pins s2 σ H2 _ I2 q2) fun iv s3 ⟨y,H3,I3,ry,a,H4,ex,g,q3⟩=>?_) hs
  subst ex
  obtain rfl:u=Value.ref a:=rx
  exact d_setItem hu I3 g ry rv fun s4 I4=>⟨σ,H4,I4,q3⟩
end
theorem dk_empty {P:Program} {w:World} {H:Hp} (h:Heap) (hb:sysModules < h.objs.size):ObjOk P w H (h.push { cls:=.type "dict", data:=.dict #[] }) h.objs.size (.dK []) :=
  ⟨Nat.zero_le _,beq_eq_false_iff_ne.mpr (Ne.symm (Nat.ne_of_lt hb)),[],.nil,Heap.DictOf.new h⟩
def tDNewK:TE:=fun _ H Q=>∀ p,H p=none→Q (.ref p) (upd H p (.dK []))
section
variable {X:Cx} {pos:Pos}
theorem pe_dnewK:PE X (.Dict [] [] pos) tDNewK:=fun pins s σ H Q I h =>
  wpAny_Dict_empty ⟨.ref s.heap.objs.size,_,I.laid (a:=s.heap.objs.size) (o:=.dK []) (t':=s.toks) (fun _ _ q=>Heap.get?_push_of_some _ q) (Nat.le_refl _) (dk_empty s.heap I.big),rfl,h _ (I.hok.fresh (Nat.le_refl _))⟩
end
def tPairs:List (TE × TE)→St→Hp→(List (V × V)→Hp→Prop)→Prop
  | [],_,H,Q=>Q [] H
  | (tk,tv) :: r,σ,H,Q=>tk σ H fun x H1=>tv σ H1 fun y H2=>tPairs r σ H2 fun ps H3=>Q ((x,y) :: ps) H3
abbrev VV:List (V × V)→List (Value × Value)→Prop:=Paired fun p q=>RelV p.1 q.1∧RelV p.2 q.2
def PPs (X:Cx) (pos:Pos) (keys:List (Option Expr)) (values:List Expr) (trs:List (TE × TE)):Prop :=
  ∀ (pins:List (Addr × Obj)) (s:Shared) (σ:St) (H:Hp) (Q:List (V × V)→Hp→Prop),Inv X pins σ H s→tPairs trs σ H Q →
    wpAny (model X.prog X.w) X.A (evalPairs (pairTrees keys values X.env pos)) (fun vs s'=>∃ ps H',Inv X pins σ H' s'∧VV ps vs∧Q ps H') X.xe s
theorem pps_nil {X:Cx} {pos:Pos}:PPs X pos [] [] []:=fun pins s σ H Q I h=>pairTrees_nil_walk ⟨[],H,I,.nil,h⟩
theorem pps_cons {X:Cx} {pos:Pos} {k v:Expr} {ks:List (Option Expr)} {vs:List Expr} {tk tv:TE} {trs:List (TE × TE)} (hk:PE X k tk) (hv:PE X v tv) (hr:PPs X pos ks vs trs) :
    PPs X pos (some k :: ks) (v :: vs) ((tk,tv) :: trs):=fun pins s σ H Q I h =>
  pairTrees_cons_walk (thn (hk pins s σ H _ I h) fun u s1 ⟨x,H1,I1,rx,q1⟩=>thn (hv pins s1 σ H1 _ I1 q1) fun w2 s2 ⟨y,H2,I2,ry,q2⟩ =>
    thn (hr pins s2 σ H2 _ I2 q2) fun ws s3 ⟨ps,H3,I3,rel,q3⟩=>⟨(x,y) :: ps,H3,I3,.cons ⟨rx,ry⟩ rel,q3⟩)
def mergeK (kvs more:List (Key × V)):List (Key × V):=more.foldl (fun acc kv=>putK acc kv.1 kv.2) kvs
theorem KV.merge:∀ {more:List (Key × V)} {rs:List (Key × Value)} {kvs:List (Key × V)} {vs:List (Key × Value)},KV more rs→KV kvs vs→KV (mergeK kvs more) (merged vs rs):=by
  intro more rs kvs vs r
  unfold KV at r
  induction r generalizing kvs vs with
  | nil=>intro q;exact q
  | @cons p q ps qs h t ih =>
    intro r0
    have e:KV (putK kvs p.1 p.2) (stored vs q.1 q.2):=by
      have:=r0.put p.1 h.2
      rw [← h.1];exact this
    exact ih e
theorem length_mergeK:∀ (more kvs:List (Key × V)),(mergeK kvs more).length≤kvs.length + more.length
  | [],kvs=>by show kvs.length≤kvs.length + 0;omega
  | p :: r,kvs=>by
    have h1:=length_mergeK r (putK kvs p.1 p.2)
    have h2:=length_putK kvs p.1 p.2
    show (mergeK (putK kvs p.1 p.2) r).length≤_
    rw [List.length_cons];omega
theorem carries_of {P:Program} {w:World}:∀ {kvs:List (Key × V)} {ws:List (Value × Value)},VV (kvs.map fun kv=>(kV kv.1,kv.2)) ws→∃ rs,Carries (mixKind P w) ws rs∧KV kvs rs
  | [],_,r=>by rw [List.map_nil] at r;cases r;exact ⟨[],True.intro,.nil⟩
  | p :: kvs,_,r=>by
    rw [List.map_cons] at r
    cases r with
    | @cons a b as bs h t =>
      obtain ⟨rs,c,q⟩:=carries_of (P:=P) (w:=w) t
      obtain ⟨b1,b2⟩:=b
      exact ⟨(p.1,b2) :: rs,⟨kV_is h.1,rfl,c⟩,.cons ⟨rfl,h.2⟩ q⟩
def tDisp (trs:List (TE × TE)):TE:=fun σ H Q=>∀ p,H p=none→tPairs trs σ (upd H p (.dK [])) fun ps H2=>H2 p=some (.dK [])∧∃ kvs:List (Key × V),ps=kvs.map (fun kv=>(kV kv.1,kv.2))∧kvs.length≤15∧Q (.ref p) (upd H2 p (.dK (mergeK [] kvs)))
theorem pe_disp {X:Cx} {pos:Pos} {keys:List (Option Expr)} {values:List Expr} {trs:List (TE × TE)} (h:PPs X pos keys values trs) (hall:keys.all (·.isSome)=true) (hl:keys.length=values.length) (h0:keys≠[])
    (h15:keys.length≤15):PE X (.Dict keys values pos) (tDisp trs):=by
  intro pins s σ H Q I q
  have hn:=I.hok.fresh (Nat.le_refl s.heap.objs.size)
  have I1:=I.laid (a:=s.heap.objs.size) (o:=.dK []) (h':=s.heap.push { cls:=.type "dict", data:=.dict #[] }) (t':=s.toks) (fun _ _ q=>Heap.get?_push_of_some _ q) (Nat.le_refl _) (dk_empty s.heap I.big)
  refine wpAny_Dict_walk (knd:=mixKind X.prog X.w) hall hl h0 h15 (thn (h pins _ σ _ _ I1 (q _ hn)) fun ws s2 ⟨ps,H2,I2,rel,e,kvs,ep,lk,q2⟩=>?_)
  subst ep
  obtain ⟨rs,c,rk⟩:=carries_of (P:=X.prog) (w:=X.w) rel
  obtain ⟨z,hd,vs0,r0,dd⟩:=dk_of I2.hok e
  cases r0
  refine ⟨rs,c,dd,fun h' dd' hs=>⟨.ref s.heap.objs.size,_,?_,rfl,q2⟩⟩
  have hz:(mergeK [] kvs).length≤sizeLine:=by
    have h1:=length_mergeK kvs []
    rw [List.length_nil] at h1
    rw [sizeLine_eq];omega
  have he:∃ q,h'.get? s.heap.objs.size=some q:=let ⟨q,_,_,hq,_⟩:=dd';⟨q,hq⟩
  exact d_write I2 (by rw [e];exact True.intro) hs he (dk_new hz hd (rk.merge .nil) dd')
structure M1 (X:Cx) (o:Expr) (m:Str) (apos:Pos) (e:Expr) (cpos:Pos):Prop where
  base:attributeBase o m X.env (eval o X.env)=eval o X.env
  few:((backTo cpos (starEach [e] X.env)).all (fun x=>!x.1) && (backToKw cpos (keywordEach [] X.env)).all (fun x=>x.1.isSome)
    && decide (([e]:List Expr).length + ([]:List Keyword).length + (if ([]:List Keyword).isEmpty then 0 else 1) < 30))=true
  line:(apos.endLine == cpos.line)=true
  trees:backTo cpos (starEach [e] X.env)=[(false,eval e X.env)]
structure M2 (X:Cx) (o:Expr) (m:Str) (apos:Pos) (e f:Expr) (cpos:Pos):Prop where
  base:attributeBase o m X.env (eval o X.env)=eval o X.env
  few:((backTo cpos (starEach [e,f] X.env)).all (fun x=>!x.1) && (backToKw cpos (keywordEach [] X.env)).all (fun x=>x.1.isSome)
    && decide (([e,f]:List Expr).length + ([]:List Keyword).length + (if ([]:List Keyword).isEmpty then 0 else 1) < 30))=true
  line:(apos.endLine == cpos.line)=true
  trees:backTo cpos (starEach [e,f] X.env)=[(false,eval e X.env),(false,eval f X.env)]
def IsD (H:Hp) (a:Addr):Prop:=(∃ kvs,Rd H a (.dK kvs))∨∃ kvs,Rd H a (.dT kvs)
theorem isD_at {X:Cx} {pins:List (Addr × Obj)} {σ:St} {H:Hp} {s:Shared} {a:Addr} (I:Inv X pins σ H s) (d:IsD H a) :
    s.TypeIs (.ref a) "dict" ∧ (∀ b,Value.ref a=.ref b→∃ ob,s.heap.get? b=some ob∧ob.dict=none)∧(a == sysModules)=false:=by
  rcases d with ⟨kvs,e⟩ | ⟨kvs,e⟩
  · obtain ⟨_,hd,vs,_,dd⟩:=dk_rd I.hok e
    refine ⟨dd.typeIs,fun b q=>?_,hd⟩
    cases q
    obtain ⟨ob,_,_,h1,h2,_⟩:=dd
    exact ⟨ob,h1,h2.2.1⟩
  · obtain ⟨_,hd,xs,_,dd⟩:=dt_rd I.hok e
    refine ⟨dd.typeIs,fun b q=>?_,hd⟩
    cases q
    obtain ⟨ob,_,_,h1,h2,_⟩:=dd
    exact ⟨ob,h1,h2.2.1⟩
section
variable {X:Cx} {pins:List (Addr × Obj)} {σ:St} {H:Hp} {s:Shared} {a:Addr} {y d:V} {u r:Value} {o:Option V} {A:Around} {E:Value→Shared→Prop}
theorem d_get1 {Q:Value→Shared→Prop} (hu:A.units + 1 < cLine) (I:Inv X pins σ H s) (g:DGet H a y o) (ry:RelV y u) (h:∀ w' s',Inv X pins σ H s'→RelV (o.getD .non) w'→Q w' s') :
    wpAny (model X.prog X.w) A (call (.builtin "dict.get") [.ref a,u]) Q E s:=by
  rcases g with ⟨kvs,k,e,ey,l⟩ | ⟨kvs,k,b,e,ey,eb,l⟩
  · subst ey
    obtain ⟨z,hd,vs,rel,dd⟩:=dk_rd I.hok e
    refine call_meetsIn PySem.F.slot_dict_get dd.typeIs PySem.F.entry_dict_get (PySem.F.args_dict_get_2 _ _) (meets_dict_get (mixKind X.prog X.w) a (kV_is ry) hd) ⟨_,dd.mapOf,h _ _ (I.tok _) ?_⟩
    rw [l]
    exact (rel.val k).getD rfl
  · subst ey
    cases (show u=Value.ref b from ry)
    obtain ⟨z,hd,xs,rel,dd⟩:=dt_rd I.hok e
    refine call_meetsIn PySem.F.slot_dict_get dd.typeIs PySem.F.entry_dict_get (PySem.F.args_dict_get_2 _ _) (meetsH_dict_get (tupleKind (mixKind X.prog X.w)) a b hd) ⟨tupleKind_room_in1 hu,k,xs,key_of I.hok eb,dd,h _ _ (I.tok _) ?_⟩
    rw [l]
    exact (rel.val k).getD rfl
theorem d_get2 {Q:Value→Shared→Prop} (hu:A.units + 1 < cLine) (I:Inv X pins σ H s) (g:DGet H a y o) (ry:RelV y u) (rd:RelV d r) (h:∀ w' s',Inv X pins σ H s'→RelV (o.getD d) w'→Q w' s') :
    wpAny (model X.prog X.w) A (call (.builtin "dict.get") [.ref a,u,r]) Q E s:=by
  rcases g with ⟨kvs,k,e,ey,l⟩ | ⟨kvs,k,b,e,ey,eb,l⟩
  · subst ey
    obtain ⟨z,hd,vs,rel,dd⟩:=dk_rd I.hok e
    refine call_meetsIn PySem.F.slot_dict_get dd.typeIs PySem.F.entry_dict_get (PySem.F.args_dict_get_3 _ _ _) (meets_dict_get_default (mixKind X.prog X.w) a (kV_is ry) hd r) ⟨_,dd.mapOf,h _ _ (I.tok _) ?_⟩
    rw [l]
    exact (rel.val k).getD rd
  · subst ey
    cases (show u=Value.ref b from ry)
    obtain ⟨z,hd,xs,rel,dd⟩:=dt_rd I.hok e
    refine call_meetsIn PySem.F.slot_dict_get dd.typeIs PySem.F.entry_dict_get (PySem.F.args_dict_get_3 _ _ _) (meetsH_dict_get_default (tupleKind (mixKind X.prog X.w)) a b hd r) ⟨tupleKind_room_in1 hu,k,xs,key_of I.hok eb,dd,h _ _ (I.tok _) ?_⟩
    rw [l]
    exact (rel.val k).getD rd
end
def tDGet1 (td ty:TE):TE:=fun σ H Q=>td σ H fun x H1=>∃ a,x=.ref a∧IsD H1 a∧ty σ H1 fun y H2=>∃ o,DGet H2 a y o∧Q (o.getD .non) H2
def tDGet2 (td ty tx:TE):TE:=fun σ H Q=>td σ H fun x H1=>∃ a,x=.ref a∧IsD H1 a∧ty σ H1 fun y H2=>tx σ H2 fun z H3=>∃ o,DGet H3 a y o∧Q (o.getD z) H3
section
variable {X:Cx} {o e f:Expr} {apos cpos:Pos} {td ty tx:TE}
theorem pe_dget1 (hu:X.A.units + 1 < cLine) (ho:PE X o td) (he:PE X e ty) (m:M1 X o "get" apos e cpos):PE X (.Call (.Attribute o "get" apos) [e] [] cpos) (tDGet1 td ty):=by
  intro pins s σ H Q I h
  refine wpAny_Call_method m.base m.few m.line PySem.F.plainAttrs_dict PySem.F.slot_dict_get PySem.F.type_dict_get (thn (ho pins s σ H _ I h) fun u s1 ⟨x,H1,I1,rx,a,ex,d,q1⟩=>?_)
  subst ex
  obtain rfl:u=Value.ref a:=rx
  obtain ⟨t1,t2,_⟩:=isD_at I1 d
  refine ⟨t1,t2,?_⟩
  rw [m.trees]
  refine Calls.callWith_builtin rfl (Calls.evalArgs_plain (Calls.spliced_cons (thn (he pins s1 σ H1 _ I1 q1) fun iv s2 ⟨y,H2,I2,ry,ov,g,q2⟩=>Calls.spliced_nil ?_)))
  exact d_get1 hu I2 g ry fun w' s3 I3 rw'=>⟨_,H2,I3,rw',q2⟩
theorem pe_dget2 (hu:X.A.units + 1 < cLine) (ho:PE X o td) (he:PE X e ty) (hf:PE X f tx) (m:M2 X o "get" apos e f cpos):PE X (.Call (.Attribute o "get" apos) [e,f] [] cpos) (tDGet2 td ty tx):=by
  intro pins s σ H Q I h
  refine wpAny_Call_method m.base m.few m.line PySem.F.plainAttrs_dict PySem.F.slot_dict_get PySem.F.type_dict_get (thn (ho pins s σ H _ I h) fun u s1 ⟨x,H1,I1,rx,a,ex,d,q1⟩=>?_)
  subst ex
  obtain rfl:u=Value.ref a:=rx
  obtain ⟨t1,t2,_⟩:=isD_at I1 d
  refine ⟨t1,t2,?_⟩
  rw [m.trees]
  refine Calls.callWith_builtin rfl (Calls.evalArgs_plain (Calls.spliced_cons (thn (he pins s1 σ H1 _ I1 q1) fun iv s2 ⟨y,H2,I2,ry,q2⟩ =>
    Calls.spliced_cons (thn (hf pins s2 σ H2 _ I2 q2) fun fv s3 ⟨z,H3,I3,rz,ov,g,q3⟩=>Calls.spliced_nil ?_))))
  exact d_get2 hu I3 g ry rz fun w' s4 I4 rw'=>⟨_,H3,I4,rw',q3⟩
end
section
variable {X:Cx} {pins:List (Addr × Obj)} {σ:St} {H:Hp} {s:Shared} {a:Addr} {kvs:List (Key × V)} {A:Around} {E:Value→Shared→Prop}
end
section
variable {X:Cx} {pins:List (Addr × Obj)} {σ:St} {H:Hp} {s:Shared} {a:Addr} {y:V} {u:Value} {A:Around} {E:Value→Shared→Prop}
end
end L2
namespace Srt
open PySem PySem.W PyProof.Rows
variable {α β:Type} {O:KeyOrd} {key:Nat→O.α} {n:Nat}
def Ok (O:KeyOrd) (key:Nat→O.α) (n:Nat) (Q:α→Prop):KasT α→Prop
  | .ret a=>Q a
  | .ask i j k=>i < n∧j < n∧Ok O key n Q (k (O.blt (key i) (key j)))
theorem Ok.bind {t:KasT α} {f:α→KasT β} {Q:β→Prop}:Ok O key n (fun a=>Ok O key n Q (f a)) t→Ok O key n Q (t.bind f):=by
  induction t with
  | ret a=>exact id
  | ask i j k ih=>exact fun h=>⟨h.1,h.2.1,ih _ h.2.2⟩
theorem Ok.wp {cmp:Nat→Nat→(Bool→Shared→Prop)→Shared→Prop} {s:Shared} (hc:∀ i j C,i < n→j < n→C (O.blt (key i) (key j)) s→cmp i j C s) {G:α→Shared→Prop} {Q:α→Prop} (hq:∀ a,Q a→G a s) {t:KasT α}:Ok O key n Q t→t.kasWp cmp G s:=by
  induction t with
  | ret a=>exact hq a
  | ask i j k ih=>exact fun h=>hc i j _ h.1 h.2.1 (ih _ h.2.2)
def Pm (n:Nat) (p:Array Nat):Prop:=p.toList.Perm (List.range n)
theorem Pm.size {p:Array Nat} (h:Pm n p):p.size=n:=by
  have:=h.length_eq
  simpa using this
theorem Pm.lt {p:Array Nat} (h:Pm n p) {i:Nat} (hi:i < n):p.getD i 0 < n:=by
  have hs:i < p.size:=by rw [h.size];exact hi
  have e:p.getD i 0=p[i]:=by simp [Array.getD,hs]
  rw [e]
  have:p[i] ∈ p.toList:=by simp
  exact List.mem_range.mp (h.mem_iff.mp this)
theorem Pm.of {p q:Array Nat} (h:Pm n p) (e:q.Perm p):Pm n q:=(Array.perm_iff_toList_perm.mp e).trans h
variable (key) in
def kk (p:Array Nat) (i:Nat):O.α:=key (p.getD i 0)
theorem kk_congr {p q:Array Nat} {i j:Nat} (h:p[i]?=q[j]?):kk key p i=kk key q j:=by
  unfold kk
  rw [Array.getD_eq_getD_getElem?,Array.getD_eq_getD_getElem?,h]
variable (key) in
def Up (p:Array Nat) (k:Nat):Prop:=∀ i j,i≤j→j < k→O.kle (kk key p i) (kk key p j)
variable (key) in
def Down (p:Array Nat) (k:Nat):Prop:=∀ i j,i≤j→j < k→O.kle (kk key p j) (kk key p i)
theorem rev_kk {p:Array Nat} {i j:Nat} (hj:j≤p.size) (k:Nat):kk key (kas_rev p i j) k=if i≤k∧k < j then kk key p (i + j - 1 - k) else kk key p k:=by
  have e:=getElem?_mirror_all (xs:=p) (i:=i) hj k
  unfold kas_rev
  by_cases h:i≤k∧k < j
  · rw [if_pos h] at e ⊢;exact kk_congr e
  · rw [if_neg h] at e ⊢;exact kk_congr e
theorem rev_same {p:Array Nat} {i j:Nat} (hj:j≤p.size) (heq:∀ k,i≤k→k < j→kk key p k=kk key p (j - 1)) (k:Nat):kk key (kas_rev p i j) k=kk key p k:=by
  rw [rev_kk hj]
  by_cases h:i≤k∧k < j
  · rw [if_pos h,heq _ (by omega) (by omega),heq k h.1 h.2]
  · rw [if_neg h]
theorem Pm.rev {p:Array Nat} (h:Pm n p) (i j:Nat):Pm n (kas_rev p i j):=h.of (mirror_perm _ _ _ _)
theorem grow_up {p:Array Nat} {m:Nat} (h1:1≤m) (hs:Up key p m) (h:O.kle (kk key p (m - 1)) (kk key p m)):Up key p (m + 1):=fun i j hij hj=>by
  by_cases hjm:j < m
  · exact hs i j hij hjm
  · have:j=m:=by omega
    subst this
    by_cases hi:i=j
    · subst hi;exact KeyOrd.kle_refl _
    · exact KeyOrd.kle_trans (hs i (j - 1) (by omega) (by omega)) h
theorem grow_down {p:Array Nat} {m:Nat} (h1:1≤m) (hs:Down key p m) (h:O.kle (kk key p m) (kk key p (m - 1))):Down key p (m + 1):=fun i j hij hj=>by
  by_cases hjm:j < m
  · exact hs i j hij hjm
  · have:j=m:=by omega
    subst this
    by_cases hi:i=j
    · subst hi;exact KeyOrd.kle_refl _
    · exact KeyOrd.kle_trans h (hs i (j - 1) (by omega) (by omega))
theorem asc_ok {p:Array Nat} (hP:Pm n p) {Q:Nat→Prop}:∀ (f m:Nat),1≤m→m + f≤n→Up key p m→(∀ m',m≤m'→m'≤m + f→Up key p m'→(m'=m + f∨O.klt (kk key p m') (kk key p (m' - 1)))→Q m')→Ok O key n Q (kas_asc p f m)
  | 0,m,_,_,hs,h=>h m (Nat.le_refl _) (Nat.le_refl _) hs (.inl rfl)
  | f + 1,m,h1,hn,hs,h=>by
    refine ⟨hP.lt (by omega),hP.lt (by omega),?_⟩
    show Ok O key n Q (if O.blt (kk key p m) (kk key p (m - 1))=true then .ret m else kas_asc p f (m + 1))
    cases hb:O.blt (kk key p m) (kk key p (m - 1)) with
    | true =>
      rw [if_pos rfl]
      exact h m (Nat.le_refl _) (by omega) hs (.inr hb)
    | false =>
      rw [if_neg Bool.false_ne_true]
      exact asc_ok hP f (m + 1) (by omega) (by omega) (grow_up h1 hs hb) fun m' a b c d=>h m' (by omega) (by omega) c (by rcases d with d | d;exact .inl (by omega);exact .inr d)
variable (key) in
def Tail (p:Array Nat) (m q:Nat):Prop:=q + 1≤m∧∀ i,m - (q + 1)≤i→i < m→kk key p i=kk key p (m - 1)
theorem desc_ok {Q:Array Nat × Nat × Nat→Prop}:∀ (f:Nat) (p:Array Nat) (m q:Nat),Pm n p→1≤m→m + f≤n→Down key p m→Tail key p m q →
    (∀ p' m' q',Pm n p'→m≤m'→m'≤m + f→Down key p' m'→Tail key p' m' q'→Q (p',m',q'))→Ok O key n Q (kas_desc f p m q)
  | 0,p,m,q,hP,_,_,hs,ht,h=>h p m q hP (Nat.le_refl _) (Nat.le_refl _) hs ht
  | f + 1,p,m,q,hP,h1,hn,hs,ht,h=>by
    have hsz:=hP.size
    refine ⟨hP.lt (by omega),hP.lt (by omega),?_⟩
    show Ok O key n Q (if O.blt (kk key p m) (kk key p (m - 1))=true then (if q > 0 then kas_desc f (kas_rev p (m - (q + 1)) m) (m + 1) 0 else kas_desc f p (m + 1) 0)
      else .ask (p.getD (m - 1) 0) (p.getD m 0) fun d=>if d=true then .ret (p,m,q) else kas_desc f p (m + 1) (q + 1))
    have one:∀ p':Array Nat,Tail key p' (m + 1) 0:=fun p'=>⟨by omega,fun i a b=>by congr 1;omega⟩
    cases hb:O.blt (kk key p m) (kk key p (m - 1)) with
    | true =>
      rw [if_pos rfl]
      have hd:=grow_down h1 hs (KeyOrd.kle_of_klt hb)
      by_cases hq:q > 0
      · rw [if_pos hq]
        have e:=rev_same (key:=key) (p:=p) (i:=m - (q + 1)) (j:=m) (by omega) ht.2
        refine desc_ok f _ (m + 1) 0 (hP.rev _ _) (by omega) (by omega) (fun i j a b=>by rw [e,e];exact hd i j a b) (one _) fun p' m' q' a b c d g=>h p' m' q' a (by omega) (by omega) d g
      · rw [if_neg hq]
        exact desc_ok f p (m + 1) 0 hP (by omega) (by omega) hd (one _) fun p' m' q' a b c d g=>h p' m' q' a (by omega) (by omega) d g
    | false =>
      rw [if_neg Bool.false_ne_true]
      refine ⟨hP.lt (by omega),hP.lt (by omega),?_⟩
      show Ok O key n Q (if O.blt (kk key p (m - 1)) (kk key p m)=true then .ret (p,m,q) else kas_desc f p (m + 1) (q + 1))
      cases hc:O.blt (kk key p (m - 1)) (kk key p m) with
      | true =>
        rw [if_pos rfl]
        exact h p m q hP (Nat.le_refl _) (by omega) hs ht
      | false =>
        rw [if_neg Bool.false_ne_true]
        have he:kk key p m=kk key p (m - 1):=KeyOrd.kle_antisymm hc hb
        refine desc_ok f p (m + 1) (q + 1) hP (by omega) (by omega) (grow_down h1 hs hc) ⟨by have:=ht.1;omega,fun i a b=>?_⟩ fun p' m' q' a b c d g=>h p' m' q' a (by omega) (by omega) d g
        rw [Nat.add_sub_cancel]
        by_cases hi:i=m
        · rw [hi]
        · rw [he];exact ht.2 i (by omega) (by omega)
theorem tail_ok {p:Array Nat} {m:Nat} (hP:Pm n p) (h1:1≤m) (hm:m≤n) (hs:Down key p m) {Q:Nat × Array Nat→Prop} (h:∀ m' p',Pm n p'→1≤m'→m'≤n→Up key p' m'→Q (m',p')):Ok O key n Q (kas_tail3 m n p):=by
  have hsz:=hP.size
  refine Ok.bind (asc_ok (hP.rev 0 m) (n - m) m h1 (by omega) (fun i j hij hj=>?_) fun m' a b c _=>h m' _ (hP.rev 0 m) (by omega) (by omega) c)
  rw [rev_kk (by omega),rev_kk (by omega),if_pos (by omega),if_pos (by omega)]
  exact hs _ _ (by omega) (by omega)
theorem descPart_ok {p:Array Nat} {m:Nat} (hP:Pm n p) (h1:1≤m) (hm:m + 1≤n) (hs:Down key p (m + 1)) {Q:Nat × Array Nat→Prop} (h:∀ m' p',Pm n p'→1≤m'→m'≤n→Up key p' m'→Q (m',p')):Ok O key n Q (kas_descPart m n p):=by
  refine Ok.bind (desc_ok (n - (m + 1)) p (m + 1) 0 hP (by omega) (by omega) hs ⟨by omega,fun i a b=>by congr 1;omega⟩ fun p' m' q' a b c d g=>?_)
  have hsz:=a.size
  show Ok O key n Q (if q' > 0 then kas_tail3 m' n (kas_rev p' (m' - (q' + 1)) m') else kas_tail3 m' n p')
  by_cases hq:q' > 0
  · rw [if_pos hq]
    have e:=rev_same (key:=key) (p:=p') (i:=m' - (q' + 1)) (j:=m') (by omega) g.2
    exact tail_ok (a.rev _ _) (by omega) (by omega) (fun i j x y=>by rw [e,e];exact d i j x y) h
  · rw [if_neg hq]
    exact tail_ok a (by omega) (by omega) d h
theorem count_ok {p:Array Nat} (hP:Pm n p) (h1:1≤n) {Q:Nat × Array Nat→Prop} (h:∀ m' p',Pm n p'→1≤m'→m'≤n→Up key p' m'→Q (m',p')):Ok O key n Q (kas_count n p):=by
  have hsz:=hP.size
  refine Ok.bind (asc_ok hP (n - 1) 1 (Nat.le_refl _) (by omega) (fun i j a b=>?_) fun m a b c d=>?_)
  · have:i=j:=by omega
    subst this;exact KeyOrd.kle_refl _
  · show Ok O key n Q (if (m == n)=true then .ret (m,p) else if m > 1 then .ask (p.getD 0 0) (p.getD (m - 1) 0) fun c=>if c=true then .ret (m,p) else kas_descPart m n (kas_rev p 0 m) else kas_descPart m n p)
    by_cases hm:m=n
    · rw [if_pos (by simpa using hm)]
      exact h m p hP a (by omega) c
    · rw [if_neg (by simpa using hm)]
      have hlt:O.klt (kk key p m) (kk key p (m - 1)):=by
        rcases d with d | d
        · exact absurd (by omega) hm
        · exact d
      by_cases hg:m > 1
      · rw [if_pos hg]
        refine ⟨hP.lt (by omega),hP.lt (by omega),?_⟩
        show Ok O key n Q (if O.blt (kk key p 0) (kk key p (m - 1))=true then .ret (m,p) else kas_descPart m n (kas_rev p 0 m))
        cases hb:O.blt (kk key p 0) (kk key p (m - 1)) with
        | true =>
          rw [if_pos rfl]
          exact h m p hP a (by omega) c
        | false =>
          rw [if_neg Bool.false_ne_true]
          have hall:∀ k,0≤k→k < m→kk key p k=kk key p (m - 1):=fun k _ hk =>
            KeyOrd.kle_antisymm (c k (m - 1) (by omega) (by omega)) (KeyOrd.kle_trans hb (c 0 k (by omega) hk))
          have e:=rev_same (key:=key) (p:=p) (i:=0) (j:=m) (by omega) hall
          refine descPart_ok (hP.rev _ _) (by omega) (by omega) (grow_down (by omega) (fun i j x y=>?_) ?_) h
          · rw [e,e,hall i (by omega) (by omega),hall j (by omega) y];exact KeyOrd.kle_refl _
          · rw [e,e];exact KeyOrd.kle_of_klt hlt
      · rw [if_neg hg]
        have:m=1:=by omega
        subst this
        refine descPart_ok hP (Nat.le_refl _) (by omega) (grow_down (Nat.le_refl _) (fun i j x y=>?_) (KeyOrd.kle_of_klt hlt)) h
        have:i=j:=by omega
        subst this;exact KeyOrd.kle_refl _
theorem place_ok {p:Array Nat} {k:Nat} (hP:Pm n p) (hk:k < n) (hs:Up key p k) {Q:Nat→Prop}
    (h:∀ l,l≤k→(∀ i,i < l→O.kle (kk key p i) (kk key p k))→(∀ i,l≤i→i < k→O.klt (kk key p k) (kk key p i))→Q l):∀ (f l r:Nat),l≤r→r≤k→r - l≤f →
      (∀ i,i < l→O.kle (kk key p i) (kk key p k))→(∀ i,r≤i→i < k→O.klt (kk key p k) (kk key p i))→Ok O key n Q (kas_place p k f l r)
  | 0,l,r,a,b,c,d,e=>by
    have:l=r:=by omega
    subst this
    exact h l b d e
  | f + 1,l,r,a,b,c,d,e=>by
    show Ok O key n Q (if l ≥ r then .ret l else .ask (p.getD k 0) (p.getD ((l + r) / 2) 0) fun c=>if c=true then kas_place p k f l ((l + r) / 2) else kas_place p k f ((l + r) / 2 + 1) r)
    by_cases hge:l ≥ r
    · rw [if_pos hge]
      have:l=r:=by omega
      subst this
      exact h l b d e
    · rw [if_neg hge]
      refine ⟨hP.lt hk,hP.lt (by omega),?_⟩
      show Ok O key n Q (if O.blt (kk key p k) (kk key p ((l + r) / 2))=true then kas_place p k f l ((l + r) / 2) else kas_place p k f ((l + r) / 2 + 1) r)
      cases hb:O.blt (kk key p k) (kk key p ((l + r) / 2)) with
      | true =>
        rw [if_pos rfl]
        exact place_ok hP hk hs h f l ((l + r) / 2) (by omega) (by omega) (by omega) d fun i x y=>KeyOrd.klt_of_klt_of_kle hb (hs _ _ x y)
      | false =>
        rw [if_neg Bool.false_ne_true]
        exact place_ok hP hk hs h f ((l + r) / 2 + 1) r (by omega) b (by omega) (fun i x=>KeyOrd.kle_trans (hs i ((l + r) / 2) (by omega) (by omega)) hb) e
theorem bubble_kk {p:Array Nat} {k d:Nat} (hs:k < p.size) (hd:d≤k) (i:Nat):kk key (bubble p k d) i=if i=k - d then kk key p k else if k - d < i∧i≤k then kk key p (i - 1) else kk key p i:=by
  have e:=getElem?_bubble hs d hd i
  by_cases h1:i=k - d
  · rw [if_pos h1] at e ⊢;exact kk_congr e
  · rw [if_neg h1] at e ⊢
    by_cases h2:k - d < i∧i≤k
    · rw [if_pos h2] at e ⊢;exact kk_congr e
    · rw [if_neg h2] at e ⊢;exact kk_congr e
theorem bin_ok {Q:Array Nat→Prop}:∀ (f:Nat) (p:Array Nat) (k:Nat),Pm n p→1≤k→k + f=n→Up key p k→(∀ p',Pm n p'→Up key p' n→Q p')→Ok O key n Q (kas_bin f p k)
  | 0,p,k,hP,_,hn,hs,h=>h p hP (by rw [← hn];exact hs)
  | f + 1,p,k,hP,h1,hn,hs,h=>by
    have hsz:=hP.size
    have hk:k < n:=by omega
    refine Ok.bind (place_ok hP hk hs (fun l a b c=>?_) k 0 k (Nat.zero_le _) (Nat.le_refl _) (by omega) (fun i x=>by omega) fun i x y=>by omega)
    refine bin_ok f _ (k + 1) (hP.of (bubble_perm _ _ _)) (by omega) (by omega) (fun i j hij hj=>?_) h
    rw [bubble_kk (by omega) (by omega),bubble_kk (by omega) (by omega),show k - (k - l)=l by omega]
    repeat' split
    all_goals first
      | (exfalso;omega)
      | exact KeyOrd.kle_refl _
      | exact b _ (by omega)
      | exact KeyOrd.kle_of_klt (c _ (by omega) (by omega))
      | exact hs _ _ (by omega) (by omega)
theorem sort_ok (h1:1≤n) {Q:Array Nat→Prop} (h:∀ p,Pm n p→Up key p n→Q p):Ok O key n Q (kas_sort n):=by
  have hP:Pm n (List.toArray (List.range n)):=List.Perm.refl _
  refine Ok.bind (count_ok hP h1 fun m p a b c d=>?_)
  show Ok O key n Q (if m < n then kas_bin (n - max m 1) p (max m 1) else .ret p)
  have hm:max m 1=m:=by omega
  by_cases hlt:m < n
  · rw [if_pos hlt,hm]
    exact bin_ok (n - m) p m a b (by omega) d h
  · rw [if_neg hlt]
    have:m=n:=by omega
    subst this
    exact h p a d
end Srt
namespace L2
open PySem PySem.Spec PyProof.Rows PySem.W
section
variable {prog:Program} {w:World} {A:Around} {E:Value→Shared→Prop} {s:Shared}
end
section
variable {X:Cx}
end
end L2
namespace L2
open PySem PySem.Spec PyProof.Rows PySem.W
section
variable {prog:Program} {w:World} {A:Around} {E:Value→Shared→Prop} {s:Shared}
theorem sort_gen {a:Addr} {vs:List Value} {n:Nat} {P:PySem.Fin→Shared→Prop} (O:KeyOrd) (key:Nat→O.α) (κ:SortKind) (ho:s.heap.get? a=some (seqObj "list" vs.toArray n)) (h64:vs.length < 64)
    (hk:∀ (s':Shared) (Q:SortKind→Shared→Prop),(∀ b o,b≠a→s.heap.get? b=some o→s'.heap.get? b=some o)→2≤vs.length→Q κ s'→wpAny (model prog w) A (keyKind' vs.toArray) Q E s')
    (hc:∀ (s':Shared) (i j:Nat) (C:Bool→Shared→Prop),(∀ b o,b≠a→s.heap.get? b=some o→s'.heap.get? b=some o)→i < vs.length→j < vs.length→C (O.blt (key i) (key j)) s'→wpAny (model prog w) A (keyLt' κ (vs.getD i Value.none) (vs.getD j Value.none)) C (fun _ _=>False) s')
    (h:∀ p:Array Nat,Srt.Pm vs.length p→Srt.Up (O:=O) key p vs.length→P (.done (.ret .none)) { s with heap:=sortedHeap s.heap a vs (p.toList.map fun i=>vs.getD i Value.none).toArray }) :
    wpAny (model prog w) A (Builtin.«list.sort» ⟨[.ref a],[]⟩) P E s:=by
  have hal:a < s.heap.objs.size:=Heap.lt_size ho
  rw [list_sort_plain]
  refine wpAny_bind (listItems_at ho rfl ?_)
  refine wpAny_bind (listUpdate_at ho rfl ?_ (by rw [List.size_toArray,sizeLine_eq];omega) (Nat.zero_le _))
  obtain ⟨e1,ho1⟩ : ∃ e1,(s.heap.update a (Obj.mapSeq fun _=>(#[]:Array Value))).get? a=some (seqObj "list" #[] e1):=⟨_,get?_update_seq ho fun _=>#[]⟩
  refine wpAny_bind (seqEpoch_at ho1 rfl (wpAny_bind (wpAny_newTuple ?_ (by show vs.length≤_;rw [sizeLine_eq];omega))))
  refine wpAny_bind (wpAny_newList (wpAny_holding ?_) (Nat.zero_le _))
  have keep:∀ b o,b≠a→s.heap.get? b=some o→(((s.heap.update a (Obj.mapSeq fun _=>(#[]:Array Value))).push (seqObj "tuple" vs.toArray 0)).push (seqObj "list" #[] 0)).get? b=some o:=fun b o hb e =>
    Heap.get?_push_of_some _ (Heap.get?_push_of_some _ ((Heap.get?_update_ne _ _ _ _ hb).trans e))
  have ho6:(((s.heap.update a (Obj.mapSeq fun _=>(#[]:Array Value))).push (seqObj "tuple" vs.toArray 0)).push (seqObj "list" #[] 0)).get? a=some (seqObj "list" #[] e1):=Heap.get?_push_of_some _ (Heap.get?_push_of_some _ ho1)
  show wpAny (model prog w) A _ P E { s with heap:=((s.heap.update a (Obj.mapSeq fun _=>(#[]:Array Value))).push (seqObj "tuple" vs.toArray 0)).push (seqObj "list" #[] 0) }
  dsimp only
  have hz:vs.toArray.size=vs.length:=List.size_toArray
  by_cases h2:vs.toArray.size < 2
  · rw [if_pos h2,if_pos h2]
    refine wpAny_bind (wpAny_pure ?_)
    rw [StateT.run_pure]
    refine wpAny_bind (wpAny_pure ?_)
    dsimp only
    refine wpAny_bind (seqEpoch_at ho6 rfl ?_)
    have e2:(arrOf (SortSt.mk' general' (vs.toArray.zip vs.toArray) #[] 7 none)).map (·.2)=vs.toArray:=by
      show (vs.toArray.zip vs.toArray).map (·.2)=vs.toArray
      apply Array.toList_inj.mp
      rw [Array.toList_map,Array.toList_zip]
      exact List.map_snd_zip (Nat.le_refl _)
    rw [e2]
    refine wpAny_bind (listUpdate_at ho6 rfl ?_ (hsz2:=by show vs.toArray.size≤_;rw [sizeLine_eq];omega))
    simp only [bne_self_eq_false,Bool.false_eq_true,if_false]
    have:=h (List.range vs.length).toArray (List.Perm.refl _) (fun i j hij hj=>by
      have:i=j:=by omega
      subst this
      exact O.irrefl _)
    have e3:((List.range vs.length).toArray.toList.map fun i=>vs.getD i Value.none)=vs:=by
      apply List.ext_getElem (by simp)
      intro i a b
      simp at a
      simp [a]
    rw [e3] at this
    exact wpAny_pure this
  · rw [if_neg h2,if_neg h2]
    refine wpAny_bind ?_
    refine hk { s with heap:=((s.heap.update a (Obj.mapSeq fun _=>(#[]:Array Value))).push (seqObj "tuple" vs.toArray 0)).push (seqObj "list" #[] 0) } _ keep (by omega) ?_
    refine wpAny_bind (wpAny_mono (kat_run (Q:=fun st' s'=>∃ p:Array Nat,Srt.Pm vs.length p∧Srt.Up (O:=O) key p vs.length∧(arrOf st').map (·.2)=(p.toList.map fun i=>vs.getD i Value.none).toArray∧failedOf st'=none ∧
        s'={ s with heap:=((s.heap.update a (Obj.mapSeq fun _=>(#[]:Array Value))).push (seqObj "tuple" vs.toArray 0)).push (seqObj "list" #[] 0) })
      (G:=fun p s'=>Srt.Pm vs.length p∧Srt.Up (O:=O) key p vs.length∧s'={ s with heap:=((s.heap.update a (Obj.mapSeq fun _=>(#[]:Array Value))).push (seqObj "tuple" vs.toArray 0)).push (seqObj "list" #[] 0) })
      (vs:=vs) (ks:=vs) rfl (by omega) (by omega) (fun p st' s' hsz har hfl hg=>?_) ?_) (fun r s' hq=>?_) fun _ _ e=>e)
    · obtain ⟨hP,hU,es⟩:=hg
      exact ⟨p,hP,hU,kat_snds rfl har,hfl,es⟩
    · refine Srt.Ok.wp (O:=O) (key:=key) (n:=vs.length) (fun i j C hi hj hC=>?_) (Q:=fun p=>Srt.Pm vs.length p∧Srt.Up (O:=O) key p vs.length) (fun p hp=>⟨hp.1,hp.2,rfl⟩) (Srt.sort_ok (by omega) fun p a b=>⟨a,b⟩)
      exact hc { s with heap:=((s.heap.update a (Obj.mapSeq fun _=>(#[]:Array Value))).push (seqObj "tuple" vs.toArray 0)).push (seqObj "list" #[] 0) } i j C keep hi hj hC
    · obtain ⟨p,o1,o2,o3,o4,rfl⟩:=hq
      obtain ⟨⟨⟩,st'⟩:=r
      dsimp only at o3 o4 ⊢
      refine wpAny_bind (seqEpoch_at ho6 rfl ?_)
      rw [o3]
      refine wpAny_bind (listUpdate_at ho6 rfl ?_ (hsz2:=by show (p.toList.map fun i=>vs.getD i Value.none).toArray.size≤_;rw [List.size_toArray,List.length_map,o1.length_eq,List.length_range,sizeLine_eq];omega))
      rw [o4]
      simp only [bne_self_eq_false,Bool.false_eq_true,if_false]
      exact wpAny_pure (h p o1 o2)
theorem sorted_gen {l:Addr} {vs:List Value} {Q:Value→Shared→Prop} (O:KeyOrd) (key:Nat→O.α) (κ:SortKind) (hl:s.heap.IsList l vs.toArray) (h64:vs.length < 64)
    (hk:∀ (s':Shared) (E':Value→Shared→Prop) (Q:SortKind→Shared→Prop),(∀ b o,s.heap.get? b=some o→s'.heap.get? b=some o)→2≤vs.length→Q κ s'→wpAny (model prog w) A.in1.in1 (keyKind' vs.toArray) Q E' s')
    (hc:∀ (s':Shared) (i j:Nat) (C:Bool→Shared→Prop),(∀ b o,s.heap.get? b=some o→s'.heap.get? b=some o)→i < vs.length→j < vs.length→C (O.blt (key i) (key j)) s'→wpAny (model prog w) A.in1.in1 (keyLt' κ (vs.getD i Value.none) (vs.getD j Value.none)) C (fun _ _=>False) s')
    (h:∀ p:Array Nat,Srt.Pm vs.length p→Srt.Up (O:=O) key p vs.length→Q (.ref (s.heap.objs.size + 1)) { s with heap:=sortedAll s.heap vs (p.toList.map fun i=>vs.getD i Value.none).toArray }) :
    wpAny (model prog w) A (call (.builtin "sorted") [.ref l]) Q E s:=by
  refine Calls.call_function_entry kind_sorted plain_sorted entry_sorted (args_sorted1 _) ?_
  unfold Builtin.«sorted»
  refine wpAny_bind (m:=checkCount "sorted" 1 1 _) (wpAny_pure ?_)
  refine wpAny_bind (collect_list hl ?_ (by rw [sizeLine_eq];omega))
  refine wpAny_bind (wpAny_newList ?_ (by rw [sizeLine_eq];omega))
  have hsz:((s.heap.push (seqObj "list" #[] 0)).update s.heap.objs.size (Obj.mapSeq (· ++ vs.toArray))).objs.size=s.heap.objs.size + 1:=by rw [Heap.size_update,size_push']
  have hoL:(((s.heap.push (seqObj "list" #[] 0)).update s.heap.objs.size (Obj.mapSeq (· ++ vs.toArray))).push (seqObj "list" vs.toArray 0)).get? (s.heap.objs.size + 1)=some (seqObj "list" vs.toArray 0):=by
    rw [← hsz];exact Heap.get?_push_size _ rfl
  have keep:∀ b o,s.heap.get? b=some o→(((s.heap.push (seqObj "list" #[] 0)).update s.heap.objs.size (Obj.mapSeq (· ++ vs.toArray))).push (seqObj "list" vs.toArray 0)).get? b=some o:=fun b o e=>by
    have hlt:b < s.heap.objs.size:=Heap.lt_size e
    exact Heap.get?_push_of_some _ ((Heap.get?_update_ne _ _ _ _ (Nat.ne_of_lt hlt)).trans (Heap.get?_push_of_some _ e))
  show wpAny _ _ _ _ _ { s with heap:=((s.heap.push (seqObj "list" #[] 0)).update s.heap.objs.size (Obj.mapSeq (· ++ vs.toArray))).push (seqObj "list" vs.toArray 0) }
  rw [hsz]
  refine wpAny_bind (wpAny_holding (wpAny_call_entry slot_list_sort ⟨_,hoL,rfl⟩ entry_list_sort ?_ (args_list_sort _)))
  have old:∀ (s':Shared),(∀ b o,b≠s.heap.objs.size + 1→(((s.heap.push (seqObj "list" #[] 0)).update s.heap.objs.size (Obj.mapSeq (· ++ vs.toArray))).push (seqObj "list" vs.toArray 0)).get? b=some o→s'.heap.get? b=some o)→∀ b o,s.heap.get? b=some o→s'.heap.get? b=some o:=fun s' h b o e=>by
    have hlt:b < s.heap.objs.size:=Heap.lt_size e
    exact h b o (fun z=>by rw [z] at hlt;exact absurd hlt (Nat.not_lt.mpr (Nat.le_succ _))) (keep b o e)
  refine sort_gen (A:=A.in1.in1) O key κ hoL h64 (fun s' Q' hs h2 hq=>hk s' _ Q' (old s' hs) h2 hq) (fun s' i j C hs hi hj hC=>hc s' i j C (old s' hs) hi hj hC) fun p o1 o2=>⟨_,rfl,wpAny_pure ⟨_,rfl,h p o1 o2⟩⟩
theorem pair_lt {x y:Addr} {fx sx fy sy:Value} {b:Bool} {C:Bool→Shared→Prop} (hx:s.heap.IsTuple x [fx,sx].toArray) (hy:s.heap.IsTuple y [fy,sy].toArray)
    (hne:x≠y→SeqAt.EqAt A s fx fy false∧wpAny (model prog w) A (oneLt' b fx fy) C (fun _ _=>False) s) (heq:x=y→SeqAt.EqAt A s fx fx true∧SeqAt.EqAt A s sx sx true∧C false s) :
    wpAny (model prog w) A (keyLt' (tuples' b) (.ref x) (.ref y)) C E s:=by
  obtain ⟨ox,gx,cx,nx,dx⟩:=hx
  obtain ⟨oy,gy,cy,ny,dy⟩:=hy
  refine kat_lt gx dx gy dy ?_
  by_cases h:x=y
  · subst h
    obtain rfl:=Option.some.inj (gx.symm.trans gy)
    rw [dx] at dy
    injection dy with e1 e2
    have e3:[fx,sx]=[fy,sy]:=by simpa using congrArg Array.toList e1
    injection e3 with e4 e5
    injection e5 with e6 e7
    subst e4 e6
    obtain ⟨q1,q2,q3⟩:=heq rfl
    show KatLex prog w A b _ C [(fx,fx),(sx,sx)] 0 s
    refine kat_cons (q1 _ _ _ _ (kat_yes (kat_cons (q2 _ _ _ _ (kat_yes (kat_nil ?_))))))
    exact q3
  · obtain ⟨q1,q2⟩:=hne h
    show KatLex prog w A b _ C [(fx,fy),(sx,sy)] 0 s
    refine kat_cons (q1 _ _ _ _ (kat_no ?_))
    have:(b && (0:Nat) == 0)=b:=by simp
    rw [this]
    exact q2
end
theorem out_gen {α:Type} {O:KeyOrd} {ts:List α} {d:α} {key:α→O.α} {p:Array Nat} (hP:Srt.Pm ts.length p) (hU:Srt.Up (O:=O) (fun i=>key (ts.getD i d)) p ts.length) :
    (p.toList.map fun i=>ts.getD i d).Perm ts∧(p.toList.map fun i=>ts.getD i d).Pairwise fun x y=>O.blt (key y) (key x)=false:=by
  constructor
  · have h1:=List.Perm.map (fun i=>ts.getD i d) hP
    have e:(List.range ts.length).map (fun i=>ts.getD i d)=ts:=by
      apply List.ext_getElem (by simp)
      intro i a b
      simp at a
      simp [a]
    rwa [e] at h1
  · rw [List.pairwise_iff_getElem]
    intro i j hi hj hij
    have hsz:=hP.size
    simp only [List.length_map,Array.length_toList] at hi hj
    have:=hU i j (Nat.le_of_lt hij) (by omega)
    unfold KeyOrd.kle Srt.kk at this
    have ei:p.getD i 0=p[i]:=by simp [Array.getD,hi]
    have ej:p.getD j 0=p[j]:=by simp [Array.getD,hj]
    rw [ei,ej] at this
    simpa using this
theorem IsTuple.keeps {h h':Heap} {a:Addr} {xs:Array Value} (k:∀ b o,h.get? b=some o→h'.get? b=some o) (x:h.IsTuple a xs):h'.IsTuple a xs:=by
  obtain ⟨o,e,r⟩:=x
  exact ⟨o,k _ _ e,r⟩
section
variable {prog:Program} {w:World} {A:Around} {E:Value→Shared→Prop} {s:Shared}
end
section
variable {X:Cx}
theorem vals_mapF {α:Type} {f:α→Addr}:∀ {ts:List α} {us:List Value},Vals (ts.map fun t=>V.ref (f t)) us→us=ts.map fun t=>Value.ref (f t)
  | [],_,.nil=>rfl
  | t :: ts,_,.cons r rr=>by
    have e:_=Value.ref (f t):=r
    rw [List.map_cons,← vals_mapF rr,← e]
theorem mapF_vals {α:Type} {f:α→Addr}:∀ ts:List α,Vals (ts.map fun t=>V.ref (f t)) (ts.map fun t=>Value.ref (f t))
  | []=>.nil
  | t :: ts=>.cons rfl (mapF_vals ts)
end
end L2
namespace L2
open PySem PySem.Spec PyProof.Rows
theorem plain_upd_loop:plainId "dict.update.loop" = true:=by decide +kernel
theorem entry_upd_loop:entryFor table "dict.update.loop" = some Builtin.«dict.update.loop»:=entryFor_of_tree (by kernel_rfl)
theorem list_keys_none:typeLookup (.type "list") "keys" = pure none:=by rw [typeLookup_type,builtinLookup_eq_fast];kernel_rfl
section
variable {prog:Program} {w:World} {A:Around} {E:Value→Shared→Prop} {s:Shared}
theorem keys_none {a:Addr} {xs:Array Value} {k:Nat} {sl:Array (Option Value)} {Q:Option Value→Shared→Prop} (hx:s.heap.get? a=some { cls:=.type "list", dict:=none,data:=.seq xs k,slots:=sl }) (hA:A.handled=none)
    (h:∀ h' tk,(∀ b o,s.heap.get? b=some o→h'.get? b=some o)→Q none { s with heap:=h',toks:=tk }):wpAny (model prog w) A (getAttr? (.ref a) "keys") Q E s:=by
  obtain ⟨hp,g,d,tk,os⟩:=s
  have hT:∀ tk',(⟨hp,g,d,tk',os⟩ : Shared).TypeIs (.ref a) "list" := fun _=>⟨_,hx,rfl⟩
  have f1:=sub_AttributeError
  have f3:=F.slot_list_getattribute.lookup
  have f4:=F.slot_list_getattribute.bind (.ref a)
  have f5:=am_list_getattr_none
  unfold getAttr? getAttrBy? getAttrBy
  repeat (any_goals (first | assumption | exact hT _ | ((with_reducible show wpAny _ _ (call (Value.builtin "list.__getattribute__") _ _) _ _ _);refine call_meets F.slot_list_getattribute (hT _) am_entry_list_getattribute (F.args_list_getattribute_2 _ _) (meets_getattribute_miss_list a xs k sl "keys" _ list_keys_none (by decide +kernel)) ⟨hx,hA,fun h' tk' e hx'=>?_⟩) | wp_step))
  obtain ⟨t',u',he⟩:=hx'.there
  show wpAny _ _ (getattributeRaised _ _ _ _ _ _ _) _ _ _
  unfold getattributeRaised
  repeat (any_goals (first | assumption | wp_step))
  exact h _ _ hx'.keeps
theorem ne_cls {h:Heap} {a b:Addr} {o u:Obj} (ha:h.get? a=some o) (hb:h.get? b=some u) (hc:o.cls≠u.cls):a≠b:=fun e=>by
  subst e
  rw [ha] at hb
  exact hc (congrArg Obj.cls (Option.some.inj hb))
def storeAll (kvs:List (Key × Value)):List (Key × Value)→List (Key × Value)
  | []=>kvs
  | p :: r=>storeAll (stored kvs p.1 p.2) r
theorem upd_loop {R:Result→Shared→Prop} {l d it:Addr} {items:Array Value} (hA:A.handled=none) (hli:l≠it) (hd0:(d == sysModules)=false):∀ (ps:List (Key × Value)) (i:Nat) (s:Shared) (kvs:List (Key × Value)),i + ps.length=items.size→s.heap.IsListIter it l i→s.heap.IsList l items→s.heap.DictOf (mixKind prog w) d kvs→kvs.length + ps.length≤sizeLine →
    (∀ (j:Nat) (q:Key × Value),ps[j]?=some q→∃ p u,items[i + j]?=some (.ref p)∧(mixKind prog w).is q.1 u=true∧s.heap.IsTuple p #[u,q.2]) →
    (∀ h' tk,h'.DictOf (mixKind prog w) d (storeAll kvs ps)→(∀ b o,b≠it→b≠d→s.heap.get? b=some o→h'.get? b=some o)→R (.ok (.ret .none)) { s with heap:=h',toks:=tk }) →
    codeAny (model prog w) A (.builtin "dict.update.loop" ⟨[.ref d,.ref it,rawInt (i:Int),.none],[]⟩) R s
  | [],i,s,kvs,hk,hit,hL,hD,hz,hp,hR=>by
    have W:=Walks.list (prog:=prog) (w:=w) (A:=A.in1) hA it l hli items
    have hin:i=items.size:=by simpa using hk
    subst hin
    refine codeAny_builtin entry_upd_loop ?_
    rw [Around.under_plainId plain_upd_loop _]
    show wpAny _ A.in1 (pyNext (.ref it) >>= _) _ _ s
    refine wpAny_bind (W.done s _ _ ⟨hit,hL⟩ fun h' tk hk'=>?_)
    show wpAny _ A.in1 (Builtin.Dict.addKeywords d [] >>= _) _ _ _
    refine wpAny_bind (wpAny_pure (wpAny_pure ?_))
    have hdi:d≠it:=by
      obtain ⟨o,es,ep,ho,hc,_⟩:=hD
      obtain ⟨o2,ho2,hc2,_⟩:=hit
      exact ne_cls ho ho2 (by rw [hc.1,hc2];intro z;injection z with z;exact absurd z (by decide))
    exact hR h' tk (hD.extBut (b:=it) (fun a o hne e=>hk' a o (by simpa using hne) e) hdi) (fun b o h1 _ e=>hk' b o (by simpa using h1) e)
  | q :: ps,i,s,kvs,hk,hit,hL,hD,hz,hp,hR=>by
    have W:=Walks.list (prog:=prog) (w:=w) (A:=A.in1) hA it l hli items
    obtain ⟨p,u,hip,hku,hpt⟩:=hp 0 q rfl
    rw [Nat.add_zero] at hip
    have hlt:i < items.size:=by rw [List.length_cons] at hk;omega
    have hdi:d≠it:=by
      obtain ⟨o,es,ep,ho,hc,_⟩:=hD
      obtain ⟨o2,ho2,hc2,_⟩:=hit
      exact ne_cls ho ho2 (by rw [hc.1,hc2];intro z;injection z with z;exact absurd z (by decide))
    have hdl:d≠l:=by
      obtain ⟨o,es,ep,ho,hc,_⟩:=hD
      obtain ⟨o2,ho2,hc2,_⟩:=hL
      exact ne_cls ho ho2 (by rw [hc.1,hc2];intro z;injection z with z;exact absurd z (by decide))
    have hpi:∀ {p:Addr} {xs:Array Value},s.heap.IsTuple p xs→p≠it∧p≠d:=fun {p xs} ht=>by
      obtain ⟨o,ho,hc,_⟩:=ht
      obtain ⟨o2,ho2,hc2,_⟩:=id hit
      obtain ⟨o3,es,ep,ho3,hc3,_⟩:=id hD
      exact ⟨ne_cls ho ho2 (by rw [hc,hc2];intro z;injection z with z;exact absurd z (by decide)),ne_cls ho ho3 (by rw [hc,hc3.1];intro z;injection z with z;exact absurd z (by decide))⟩
    refine codeAny_builtin entry_upd_loop ?_
    rw [Around.under_plainId plain_upd_loop _]
    show wpAny _ A.in1 (pyNext (.ref it) >>= _) _ _ s
    refine wpAny_bind (W.item i s _ _ hlt ⟨hit,hL⟩ fun v h' tk hP hst' hk'=>?_)
    obtain rfl:v=.ref p:=Option.some.inj ((show items[i]?=some v from hP).symm.trans hip)
    have hk2:∀ b o,b≠it→s.heap.get? b=some o→h'.get? b=some o:=fun b o hb e=>hk' b o (by simpa using hb) e
    have hpt':h'.IsTuple p #[u,q.2]:=by
      obtain ⟨o,ho,r⟩:=id hpt
      exact ⟨o,hk2 _ _ (hpi hpt).1 ho,r⟩
    obtain ⟨o,ho,hc,n,hdat⟩:=id hpt'
    refine wpAny_bind (wpAny_holding ?_)
    refine wpAny_bind (wpAny_tryCatch ?_)
    unfold Builtin.Dict.pairItems
    refine wpAny_bind (wpAny_typeOf (T:="tuple") (s:={ s with heap:=h',toks:=tk }) ⟨o,ho,hc⟩ ?_)
    rw [if_pos (by decide +kernel)]
    refine wpAny_bind ?_
    show wpAny _ A.in1 (load p >>= _) _ _ _
    refine wpAny_bind (wpAny_load ho ?_)
    rw [hdat]
    refine wpAny_pure (wpAny_pure ?_)
    have hD':h'.DictOf (mixKind prog w) d kvs:=hD.extBut (b:=it) (fun a o hne e=>hk2 a o hne e) hdi
    refine wpAny_holding (wpAny_dictSet_pairs (s:={ s with heap:=h',toks:=tk }) hku hD' (fun h'' hD'' hs=>?_) (by rw [List.length_cons] at hz;omega))
    have hit2:h''.IsListIter it l (i + 1):=by
      obtain ⟨o,ho,r⟩:=hst'.1
      exact ⟨o,(hs.2 it (Ne.symm hdi)).trans ho,r⟩
    have hL2:h''.IsList l items:=by
      obtain ⟨o,ho,r⟩:=hst'.2
      exact ⟨o,(hs.2 l (Ne.symm hdl)).trans ho,r⟩
    have keep2:∀ b o,b≠it→b≠d→s.heap.get? b=some o→h''.get? b=some o:=fun b o h1 h2 e=>(hs.2 b h2).trans (hk2 b o h1 e)
    have hlen:(stored kvs q.1 q.2).length≤kvs.length + 1:=by
      unfold stored
      split
      · rw [List.length_map];omega
      · rw [List.length_append];simp
    refine wpAny_pure ⟨plainId_quiet plain_upd_loop _,?_⟩
    refine upd_loop hA hli hd0 ps (i + 1) _ (stored kvs q.1 q.2) (by rw [List.length_cons] at hk;omega) hit2 hL2 hD'' (by rw [List.length_cons] at hz;omega) (fun j r hj=>?_) fun h3 tk3 hD3 hk3=>?_
    · obtain ⟨p',u',e1,e2,e3⟩:=hp (j + 1) r (by simpa using hj)
      refine ⟨p',u',by rw [← e1];congr 1;omega,e2,?_⟩
      obtain ⟨o,ho,rr⟩:=id e3
      exact ⟨o,keep2 _ _ (hpi e3).1 (hpi e3).2 ho,rr⟩
    · exact hR h3 tk3 hD3 fun b o h1 h2 e=>hk3 b o h1 h2 (keep2 b o h1 h2 e)
theorem dict_pairs {l:Addr} {items:Array Value} {ps:List (Key × Value)} {Q:Value→Shared→Prop} (hA:A.handled=none) (hb:sysModules < s.heap.objs.size) {ol:Obj} {nl:Nat} (hl:s.heap.get? l=some ol) (hlc:ol.cls=.type "list") (hld:ol.dict=none) (hlt:ol.data=.seq items nl) (hz:ps.length≤sizeLine) (hn:ps.length=items.size)
    (hp:∀ (j:Nat) (q:Key × Value),ps[j]?=some q→∃ p u,items[j]?=some (.ref p)∧(mixKind prog w).is q.1 u=true∧s.heap.IsTuple p #[u,q.2])
    (h:∀ h' tk,h'.DictOf (mixKind prog w) s.heap.objs.size (storeAll [] ps)→(∀ b o,s.heap.get? b=some o→h'.get? b=some o)→Q (.ref s.heap.objs.size) { s with heap:=h',toks:=tk }) :
    wpAny (model prog w) A (call (.type "dict") [.ref l]) Q E s:=by
  refine callType_codes (Q₁:=fun obj s₁=>obj=.ref s.heap.objs.size∧s₁={ s with heap:=s.heap.push { cls:=.type "dict", data:=.dict #[] } }) F.kt_called_dict (F.kt_typeCall_dict_1 _) F.entry_dict_init (kt_code_dict_new _ ⟨rfl,rfl⟩) ?_
  rintro obj s₁ ⟨rfl,rfl⟩
  have hnew:(s.heap.push { cls:=.type "dict", data:=.dict #[] }).DictOf (mixKind prog w) s.heap.objs.size []:=Heap.DictOf.new s.heap
  have hl1:(s.heap.push { cls:=.type "dict", data:=.dict #[] }).get? l=some ol:=Heap.get?_push_of_some _ hl
  have hT:({ s with heap:=s.heap.push { cls:=.type "dict", data:=.dict #[] } }:Shared).TypeIs (.ref l) "list" := ⟨_,hl1,hlc⟩
  obtain ⟨c1,d1,t1,s1⟩:=ol
  simp only at hlc hld hlt
  subst hlc hld hlt
  refine ⟨hnew.typeIs,F.args_dict_init_2 _ _,?_⟩
  unfold Builtin.«dict.__init__»
  refine wpAny_bind ?_
  unfold Builtin.Dict.selfAndRest
  refine wpAny_bind (wpAny_notOrdered_dict hnew.typeIs ?_)
  show wpAny _ _ (pure (s.heap.objs.size,[Value.ref l])) _ _ _
  refine wpAny_pure ?_
  show wpAny _ _ (Builtin.Dict.updateFrom "dict.__init__" s.heap.objs.size (.ref l) [] .none) _ _ _
  unfold Builtin.Dict.updateFrom
  refine wpAny_bind (wpAny_typeOf hT ?_)
  rw [if_pos (by decide)]
  refine wpAny_bind (keys_none hl1 hA fun h2 tk2 hk2=>?_)
  simp only [Option.isNone_none,if_true]
  refine wpAny_bind (wpAny_rule ?_)
  have hL2:h2.IsList l items:=⟨_,hk2 _ _ hl1,rfl,nl,rfl⟩
  refine wpAny_bind (wpAny_pyIter_list (s:={ s with heap:=h2,toks:=tk2 }) hL2 ?_)
  have hlt2:l < h2.objs.size:=Heap.lt_size (hk2 _ _ hl1)
  have hsz2:s.heap.objs.size < h2.objs.size:=by
    obtain ⟨o,es,ep,ho,_⟩:=id hnew
    exact Heap.lt_size (hk2 _ _ ho)
  have hD2:h2.DictOf (mixKind prog w) s.heap.objs.size []:=by
    obtain ⟨o,es,ep,ho,r⟩:=id hnew
    exact ⟨o,es,ep,hk2 _ _ ho,r⟩
  have old:∀ b o,s.heap.get? b=some o→h2.get? b=some o:=fun b o e=>hk2 b o (Heap.get?_push_of_some _ e)
  refine wpAny_pure ⟨plainId_quiet plain_upd_loop _,upd_loop (A:=A.in1) (it:=h2.objs.size) (l:=l) (items:=items) hA (Nat.ne_of_lt hlt2) (beq_eq_false_iff_ne.mpr (Ne.symm (Nat.ne_of_lt hb))) ps 0 _ [] (by simpa using hn) ⟨_,Heap.get?_push_size _ rfl,rfl,rfl⟩ (hL2.push _) (hD2.push _) (by simpa using hz) (fun j q hq=>?_) fun h' tk hD hk=>⟨rfl,?_⟩⟩
  · obtain ⟨p,u,e1,e2,o,ho,r⟩:=hp j q hq
    exact ⟨p,u,by rw [Nat.zero_add];exact e1,e2,o,Heap.get?_push_of_some _ (old _ _ ho),r⟩
  · refine h h' tk hD fun b o e=>hk b o ?_ ?_ (Heap.get?_push_of_some _ (old b o e))
    · exact Nat.ne_of_lt (Heap.lt_size (old b o e))
    · exact Nat.ne_of_lt (Heap.lt_size e)
end
theorem stored_new {kvs:List (Key × Value)} {k:Key} {v:Value} (h:k ∉ kvs.map (·.1)):stored kvs k v=kvs ++ [(k,v)]:=by
  unfold stored
  rw [if_neg]
  intro z
  obtain ⟨kv,h1,h2⟩:=List.any_eq_true.mp z
  exact h (List.mem_map.mpr ⟨kv,h1,of_decide_eq_true h2⟩)
theorem storeAll_new:∀ (ps kvs:List (Key × Value)),((kvs ++ ps).map (·.1)).Nodup→storeAll kvs ps=kvs ++ ps
  | [],kvs,_=>by simp [storeAll]
  | p :: r,kvs,h=>by
    have hn:p.1 ∉ kvs.map (·.1):=fun hm=>by
      rw [List.map_append,List.nodup_append] at h
      exact h.2.2 _ hm _ (by simp) rfl
    show storeAll (stored kvs p.1 p.2) r=_
    rw [stored_new hn]
    have e:kvs ++ [(p.1,p.2)] ++ r=kvs ++ p :: r:=by simp
    rw [storeAll_new r _ (by rw [e];exact h),e]
theorem pairs_of {X:Cx} {pins:List (Addr × Obj)} {σ:St} {H:Hp} {s:Shared} (I:Inv X pins σ H s):∀ ts:List (Addr × Str × V),(∀ t ∈ ts,SqT X.K H t.1 [.str t.2.1,t.2.2]) →
    ∃ ps:List (Key × Value),KV (ts.map fun t=>((Sum.inr t.2.1:Key),t.2.2)) ps∧∀ (j:Nat) (q:Key × Value),ps[j]?=some q→∃ p u,(ts.map fun t=>Value.ref t.1)[j]?=some (.ref p)∧(mixKind X.prog X.w).is q.1 u=true∧s.heap.IsTuple p #[u,q.2]
  | [],_=>⟨[],.nil,fun j q h=>by simp at h⟩
  | t :: r,h=>by
    obtain ⟨ps,h1,h2⟩:=pairs_of I r fun u hu=>h u (List.mem_cons_of_mem _ hu)
    obtain ⟨its,rv,p,_⟩:=I.tuple (h t List.mem_cons_self)
    obtain ⟨u,v,rfl,ru,rv'⟩:=rv.two
    refine ⟨(Sum.inr t.2.1,v) :: ps,.cons ⟨rfl,rv'⟩ h1,fun j q hj=>?_⟩
    cases j with
    | zero =>
      have:q=(Sum.inr t.2.1,v):=by simpa using hj.symm
      subst this
      exact ⟨t.1,u,rfl,kV_is (k:=Sum.inr t.2.1) ru,p⟩
    | succ j =>
      obtain ⟨p',u',e1,e2,e3⟩:=h2 j q (by simpa using hj)
      exact ⟨p',u',by simpa using e1,e2,e3⟩
theorem KV.keys' {kvs:List (Key × V)} {ps:List (Key × Value)} (r:KV kvs ps):ps.map (·.1)=kvs.map (·.1):=by
  induction r with
  | nil=>rfl
  | cons h _ ih=>rw [List.map_cons,List.map_cons,ih,h.1]
section
variable {X:Cx}
theorem call_dictP (hc:X.calm=true):CallR X (.type "dict") (fun xs H Q=>∃ (l:Addr) (ts:List (Addr × Str × V)),xs=[.ref l]∧SqL X.K H l (ts.map fun t=>V.ref t.1)∧(∀ t ∈ ts,SqT X.K H t.1 [.str t.2.1,t.2.2])∧(ts.map fun t=>t.2.1).Nodup∧ts.length≤1000 ∧
    ∀ d,H d=none→Q (.ref d) (upd H d (.dK (ts.map fun t=>((Sum.inr t.2.1:Key),t.2.2))))):=by
  intro pins s σ H xs us Q I r h
  obtain ⟨l,ts,rfl,hl,ht,hnd,hz,q⟩:=h
  cases r with
  | cons r rr =>
    cases rr
    obtain rfl:_=Value.ref l:=r
    obtain ⟨its,rv,⟨o,n,e,c,dn,dt⟩,_⟩:=I.list hl
    obtain rfl:=vals_mapF rv
    obtain ⟨ps,hkv,hps⟩:=pairs_of I ts ht
    have hlen:ps.length=ts.length:=by have:=hkv.length;rw [List.length_map] at this;exact this.symm
    have hz1:ps.length≤sizeLine:=by rw [hlen,sizeLine_eq];omega
    refine dict_pairs (I.ok.hd hc) I.big e c dn dt hz1 (by rw [List.size_toArray,List.length_map];exact hlen) (fun j q hq=>by simpa using hps j q hq) fun h' tk hD hk=>?_
    have hk1:((([]:List (Key × Value)) ++ ps).map (·.1)).Nodup:=by
      rw [List.nil_append,KV.keys' hkv,List.map_map]
      have e2:(ts.map ((fun x:Key × V=>x.1) ∘ fun t=>((Sum.inr t.2.1:Key),t.2.2)))=(ts.map fun t=>t.2.1).map (Sum.inr:Str→Key):=by rw [List.map_map];rfl
      rw [e2]
      exact List.Pairwise.map _ (fun a b hne z=>hne (by injection z)) hnd
    rw [storeAll_new ps [] hk1,List.nil_append] at hD
    have hfr:=I.hok.fresh (Nat.le_refl s.heap.objs.size)
    refine ⟨.ref s.heap.objs.size,_,I.laid (a:=s.heap.objs.size) (o:=.dK (ts.map fun t=>((Sum.inr t.2.1:Key),t.2.2))) (t':=tk) hk (Nat.le_refl _) (dk_new (by rw [List.length_map,sizeLine_eq];omega) (beq_eq_false_iff_ne.mpr (Ne.symm (Nat.ne_of_lt I.big))) hkv hD),rfl,q _ hfr⟩
theorem vals_bools:∀ {bs:List Bool} {us:List Value},Vals (bs.map V.bl) us→us=bs.map Value.bool
  | [],_,.nil=>rfl
  | b :: bs,_,.cons r rr=>by
    have e:_=Value.bool b:=r
    rw [List.map_cons,← vals_bools rr,← e]
theorem call_allB (hc:X.calm=true):CallR X (.builtin "all") (fun xs H Q=>∃ (l:Addr) (bs:List Bool),xs=[.ref l]∧SqL X.K H l (bs.map V.bl)∧Q (.bl (bs.all id)) H):=by
  intro pins s σ H xs us Q I r h
  obtain ⟨l,bs,rfl,hl,q⟩:=h
  cases r with
  | cons r rr =>
    cases rr
    obtain rfl:_=Value.ref l:=r
    obtain ⟨its,rv,p,_⟩:=I.list hl
    obtain rfl:=vals_bools rv
    have hL:=p.isList
    have hlt:l < s.heap.objs.size:=by obtain ⟨_,e,_⟩:=hL;exact Heap.lt_size e
    refine call_all_walk (wpAny_pyIter_list hL ?_)
    refine ⟨s.heap.objs.size,[s.heap.objs.size,l],[s.heap.objs.size],(bs.map Value.bool).toArray.size,_,_,fun i=>(bs[i]?).getD true,rfl,Walks.list (A:=X.A.in1) (I.ok.hd hc) _ l (Nat.ne_of_lt hlt) (bs.map Value.bool).toArray,
      ⟨⟨_,Heap.get?_push_size _ rfl,rfl,rfl⟩,hL.push _⟩,fun i v s' Q' E' hP hQ=>?_,fun h' tk hk=>?_⟩
    · have hP':(bs.map Value.bool)[i]?=some v:=by simpa using hP
      rw [List.getElem?_map] at hP'
      cases eb:bs[i]? with
      | none=>rw [eb] at hP';simp at hP'
      | some b =>
        rw [eb] at hP'
        obtain rfl:Value.bool b=v:=by simpa using hP'
        have hQ2:Q' ((bs[i]?).getD true) s':=hQ
        rw [eb] at hQ2
        exact wpAny_truthy_bool hQ2
    · have e:((List.range (bs.map Value.bool).toArray.size).all fun i=>(bs[i]?).getD true)=bs.all id:=by
        rw [List.size_toArray,List.length_map,Bool.eq_iff_iff,List.all_eq_true,List.all_eq_true]
        constructor
        · intro h x hx
          obtain ⟨i,hi,rfl⟩:=List.getElem_of_mem hx
          have:=h i (List.mem_range.mpr hi)
          rw [List.getElem?_eq_getElem hi] at this
          exact this
        · intro h i hi
          have hi':=List.mem_range.mp hi
          rw [List.getElem?_eq_getElem hi']
          exact h _ (List.getElem_mem hi')
      rw [e]
      exact ⟨.bl _,H,I.kept (t':=tk) (fun b o eb=>hk b o (fun hm=>by rw [List.mem_singleton.mp hm] at eb;exact Nat.lt_irrefl _ (Heap.lt_size eb)) (Heap.get?_push_of_some _ eb)),rfl,q⟩
end
end L2
namespace L2
open PySem PySem.Spec PyProof.Rows
section
variable {X:Cx} {tg:Expr}
end
end L2
namespace TM
inductive Tree (α:Type) where
  | node (name:α) (mark:Int) (bs:List (Tree α))
variable {α:Type}
def Tree.bs:Tree α→List (Tree α)
  | .node _ _ bs=>bs
def atT:Tree α→List Int→Option (Tree α)
  | t,[]=>some t
  | t,i :: r=>if 0≤i then (match t.bs[i.toNat]? with
    | some b=>atT b r
    | none=>none) else none
theorem atT_nil (t:Tree α):atT t []=some t:=by cases t;rfl
theorem atT_cons (t:Tree α) (i:Int) (r:List Int):atT t (i :: r)=if 0≤i then (match t.bs[i.toNat]? with
    | some b=>atT b r
    | none=>none) else none:=by cases t;rfl
structure Rows (α:Type) where
  n:Nat
  nm:Nat→α
  mr:Nat→Int
  up:Nat→Nat
structure Rows.Ok (R:Rows α):Prop where
  pos:0 < R.n
  up0:R.up 0=0
  upk:∀ k,0 < k→R.up k < k
variable {R:Rows α}
section
variable {K:Nat→List Int} {B:Nat→Tree α} {o0:Tree α}
def it (R:Rows α):Nat→Nat→Nat
  | 0,s=>s
  | j + 1,s=>R.up (it R j s)
variable {B':Nat→Tree α} {o:Tree α} {s:Nat}
end
end TM
namespace L2
open PySem PySem.Spec PyProof.Rows TM
mutual
inductive TrV (K:PySem.W.Frag) (H:Hp):V→Tree Str→Prop where
  | mk {a b:Addr} {vs:List V} {ts:List (Tree Str)} {name:Str} {mark:Int}:SqT K H a [.str name,.int mark,.ref b]→SqT K H b vs→TrAll K H vs ts→vs.length≤1000→TrV K H (.ref a) (.node name mark ts)
inductive TrAll (K:PySem.W.Frag) (H:Hp):List V→List (Tree Str)→Prop where
  | nil:TrAll K H [] []
  | cons {v:V} {vs:List V} {t:Tree Str} {ts:List (Tree Str)}:TrV K H v t→TrAll K H vs ts→TrAll K H (v :: vs) (t :: ts)
end
mutual
theorem TrV.mono {K:PySem.W.Frag} {H H':Hp} (k:∀ a xs,SqT K H a xs→SqT K H' a xs):∀ {v:V} {t:Tree Str},TrV K H v t→TrV K H' v t
  | _,_,.mk h1 h2 h3 h4=>.mk (k _ _ h1) (k _ _ h2) (TrAll.mono k h3) h4
theorem TrAll.mono {K:PySem.W.Frag} {H H':Hp} (k:∀ a xs,SqT K H a xs→SqT K H' a xs):∀ {vs:List V} {ts:List (Tree Str)},TrAll K H vs ts→TrAll K H' vs ts
  | _,_,.nil=>.nil
  | _,_,.cons h t=>.cons (TrV.mono k h) (TrAll.mono k t)
end
theorem TrAll.length {K:PySem.W.Frag} {H:Hp}:∀ {vs:List V} {ts:List (Tree Str)},TrAll K H vs ts→vs.length=ts.length
  | _,_,.nil=>rfl
  | _,_,.cons _ t=>by rw [List.length_cons,List.length_cons,TrAll.length t]
theorem TrAll.get {K:PySem.W.Frag} {H:Hp}:∀ {vs:List V} {ts:List (Tree Str)} {i:Nat} {t:Tree Str},TrAll K H vs ts→ts[i]?=some t→∃ v,vs[i]?=some v∧TrV K H v t
  | _,_,_,_,.nil,e=>by simp at e
  | _,_,0,_,.cons h _,e=>by simp at e;subst e;exact ⟨_,rfl,h⟩
  | _,_,i + 1,t,.cons _ r,e=>by
    obtain ⟨v,h1,h2⟩:=TrAll.get (i:=i) (t:=t) r (by simpa using e)
    exact ⟨v,by simpa using h1,h2⟩
theorem SqT.put {K:PySem.W.Frag} {H:Hp} {a d:Addr} {xs ys:List V} {o:HO} (h:SqT K H a xs) (hd:H d=some (.lst ys)):SqT K (upd H d o) a xs:=by
  rcases h with (h | ⟨ob,h⟩) | h
  · exact .inl (.inl (by rw [upd_ne (ne_of h hd (by intro z;cases z))];exact h))
  · exact .inl (.inr ⟨ob,by rw [upd_ne (ne_of h hd (by intro z;cases z))];exact h⟩)
  · exact .inr h
end L2
namespace TM
variable {α:Type}
mutual
def sz:Tree α→Nat
  | .node _ _ bs=>1 + szs bs
def szs:List (Tree α)→Nat
  | []=>0
  | t :: r=>sz t + szs r
end
mutual
def lv:Tree α→Nat
  | .node _ _ bs=>1 + lvs bs
def lvs:List (Tree α)→Nat
  | []=>0
  | t :: r=>max (lv t) (lvs r)
end
mutual
def pl:Tree α→List (List Int)
  | .node _ _ bs=>[] :: pls 0 bs
def pls:Nat→List (Tree α)→List (List Int)
  | _,[]=>[]
  | i,t :: r=>(pl t).map (List.cons (i:Int)) ++ pls (i + 1) r
end
theorem sz_bs (t:Tree α):sz t=1 + szs t.bs:=by cases t;simp [sz,Tree.bs]
theorem lv_bs (t:Tree α):lv t=1 + lvs t.bs:=by cases t;simp [lv,Tree.bs]
theorem szs_map:∀ ts:List (Tree α),((ts.map fun t=>(sz t:Int)).sum)=(szs ts:Int)
  | []=>by simp [szs]
  | t :: r=>by rw [List.map_cons,List.sum_cons,szs_map r];simp [szs]
theorem sz_le {ts:List (Tree α)} {t:Tree α} (h:t ∈ ts):sz t≤szs ts:=by
  induction ts with
  | nil=>cases h
  | cons u r ih =>
    simp only [szs]
    rcases List.mem_cons.mp h with rfl | h
    · omega
    · have:=ih h;omega
theorem lv_le {ts:List (Tree α)} {t:Tree α} (h:t ∈ ts):lv t≤lvs ts:=by
  induction ts with
  | nil=>cases h
  | cons u r ih =>
    simp only [lvs]
    rcases List.mem_cons.mp h with rfl | h
    · omega
    · have:=ih h;omega
mutual
theorem lv_sz:∀ t:Tree α,lv t≤sz t
  | .node _ _ bs=>by simp only [lv,sz];have:=lvs_szs bs;omega
theorem lvs_szs:∀ ts:List (Tree α),lvs ts≤szs ts
  | []=>by simp [lvs,szs]
  | t :: r=>by simp only [lvs,szs];have h1:=lv_sz t;have h2:=lvs_szs r;omega
end
mutual
theorem pl_len:∀ t:Tree α,(pl t).length=sz t
  | .node _ _ bs=>by simp only [pl,sz,List.length_cons];rw [pls_len 0 bs];omega
theorem pls_len:∀ (i:Nat) (ts:List (Tree α)),(pls i ts).length=szs ts
  | _,[]=>by simp [pls,szs]
  | i,t :: r=>by simp only [pls,szs,List.length_append,List.length_map];rw [pl_len t,pls_len (i + 1) r]
end
mutual
theorem mem_pl:∀ (t:Tree α) (p:List Int),p ∈ pl t ↔ (atT t p).isSome=true
  | .node a m bs,p=>by
    cases p with
    | nil=>simp [pl,atT_nil]
    | cons i r =>
      rw [atT_cons]
      simp only [pl,List.mem_cons,reduceCtorEq,false_or]
      rw [mem_pls 0 bs i r]
      constructor
      · rintro ⟨k,t,hk,rfl,h⟩
        rw [if_pos (by omega)]
        have e:(((0 + k:Nat):Int)).toNat=k:=by omega
        show (match bs[(((0 + k:Nat):Int)).toNat]? with | some b=>atT b r | none=>none).isSome=true
        rw [e,hk];exact h
      · intro h
        by_cases hi:0≤i
        · rw [if_pos hi] at h
          have h':(match bs[i.toNat]? with | some b=>atT b r | none=>none).isSome=true:=h
          cases hk:bs[i.toNat]? with
          | none=>rw [hk] at h';cases h'
          | some b=>rw [hk] at h';exact ⟨i.toNat,b,hk,by omega,h'⟩
        · rw [if_neg hi] at h;cases h
theorem mem_pls:∀ (j:Nat) (ts:List (Tree α)) (i:Int) (r:List Int),i :: r ∈ pls j ts ↔ ∃ k t,ts[k]?=some t∧i=((j + k:Nat):Int)∧(atT t r).isSome=true
  | j,[],i,r=>by simp [pls]
  | j,u :: ts,i,r=>by
    simp only [pls,List.mem_append,List.mem_map]
    rw [mem_pls (j + 1) ts i r]
    constructor
    · rintro (⟨q,hq,e⟩ | ⟨k,t,h1,h2,h3⟩)
      · simp only [List.cons.injEq] at e
        obtain ⟨e1,rfl⟩:=e
        exact ⟨0,u,rfl,by rw [← e1];rfl,(mem_pl u q).mp hq⟩
      · exact ⟨k + 1,t,by simpa using h1,by rw [h2];congr 1;omega,h3⟩
    · rintro ⟨k,t,h1,h2,h3⟩
      cases k with
      | zero =>
        have:u=t:=by simpa using h1
        subst this
        exact .inl ⟨r,(mem_pl u r).mpr h3,by rw [h2];rfl⟩
      | succ k=>exact .inr ⟨k,t,by simpa using h1,by rw [h2];congr 1;omega,h3⟩
end
mutual
theorem len_le:∀ (t:Tree α) (p:List Int),p ∈ pl t→p.length < lv t
  | .node a m bs,p,h=>by
    simp only [pl,List.mem_cons] at h
    simp only [lv]
    rcases h with rfl | h
    · simp;omega
    · have:=lens_le 0 bs p h;omega
theorem lens_le:∀ (j:Nat) (ts:List (Tree α)) (p:List Int),p ∈ pls j ts→p.length≤lvs ts
  | j,[],p,h=>by simp [pls] at h
  | j,u :: ts,p,h=>by
    simp only [pls,List.mem_append,List.mem_map] at h
    simp only [lvs]
    rcases h with ⟨q,hq,rfl⟩ | h
    · have:=len_le u q hq;simp;omega
    · have:=lens_le (j + 1) ts p h;omega
end
mutual
theorem len_max:∀ t:Tree α,∃ p ∈ pl t,p.length + 1=lv t
  | .node a m bs=>by
    simp only [pl,lv]
    rcases lens_max 0 bs with h | ⟨p,hp,e⟩
    · exact ⟨[],List.mem_cons_self,by rw [h];rfl⟩
    · exact ⟨p,List.mem_cons_of_mem _ hp,by omega⟩
theorem lens_max:∀ (j:Nat) (ts:List (Tree α)),lvs ts=0∨∃ p ∈ pls j ts,p.length=lvs ts
  | j,[]=>.inl (by simp [lvs])
  | j,u :: ts=>by
    right
    simp only [pls,lvs]
    obtain ⟨p,hp,e⟩:=len_max u
    by_cases hc:lvs ts≤lv u
    · exact ⟨(j:Int) :: p,List.mem_append_left _ (List.mem_map.mpr ⟨p,hp,rfl⟩),by simp;omega⟩
    · rcases lens_max (j + 1) ts with h | ⟨q,hq,e2⟩
      · omega
      · exact ⟨q,List.mem_append_right _ hq,by omega⟩
end
open HT (lexLt)
mutual
theorem pl_asc:∀ t:Tree α,(pl t).Pairwise fun x y=>lexLt x y=true
  | .node a m bs=>by
    simp only [pl]
    rw [List.pairwise_cons]
    refine ⟨fun y hy=>?_,pls_asc 0 bs⟩
    cases y with
    | nil=>exact absurd hy (nil_pls 0 bs)
    | cons _ _=>rfl
theorem pls_asc:∀ (j:Nat) (ts:List (Tree α)),(pls j ts).Pairwise fun x y=>lexLt x y=true
  | j,[]=>by simp [pls]
  | j,u :: ts=>by
    simp only [pls]
    rw [List.pairwise_append]
    refine ⟨?_,pls_asc (j + 1) ts,fun x hx y hy=>?_⟩
    · rw [List.pairwise_map]
      refine (pl_asc u).imp fun {x y} h=>?_
      rw [HT.lexLt_cons,if_pos rfl];exact h
    · obtain ⟨q,hq,rfl⟩:=List.mem_map.mp hx
      cases y with
      | nil=>exact absurd hy (nil_pls (j + 1) ts)
      | cons i r =>
        obtain ⟨k,t,_,rfl,_⟩:=(mem_pls (j + 1) ts i r).mp hy
        rw [HT.lexLt_cons,if_neg (by omega)]
        exact decide_eq_true (by omega)
theorem nil_pls:∀ (j:Nat) (ts:List (Tree α)),[] ∉ pls j ts
  | j,[]=>by simp [pls]
  | j,u :: ts=>by
    simp only [pls,List.mem_append,List.mem_map,not_or]
    exact ⟨(fun ⟨q,_,e⟩=>nomatch e),nil_pls (j + 1) ts⟩
end
variable {R:Rows α} {K:Nat→List Int} {B:Nat→Tree α} {o0:Tree α}
end TM
namespace TT
open TM PySem
inductive Lab where
  | call (m b:Int)
  | put (nm:Str) (kept:Bool) (add:Int)
abbrev Tm:=Tree Lab
def leaf (m b:Int):Tm:=.node (.call m b) 0 []
def lcl:Lab→List (Int × Int)
  | .call m b=>[(m,b)]
  | .put _ _ _=>[]
def isC:Lab→Bool
  | .call _ _=>true
  | .put _ _ _=>false
def lab:Tm→Lab
  | .node l _ _=>l
mutual
def cls:Tm→List (Int × Int)
  | .node l _ bs=>lcl l ++ clss bs
def clss:List Tm→List (Int × Int)
  | []=>[]
  | t :: r=>cls t ++ clss r
end
def hdF (f:Int→Int→Tm):Lab→List Tm→Tm
  | .call m b,_=>f m b
  | .put n k a,ts=>.node (.put n k a) 0 ts
mutual
def sub (f:Int→Int→Tm):Tm→Tm
  | .node l _ bs=>hdF f l (subs f bs)
def subs (f:Int→Int→Tm):List Tm→List Tm
  | []=>[]
  | t :: r=>sub f t :: subs f r
end
theorem cls_le {ts:List Tm} {t:Tm} (h:t ∈ ts):∀ c,c ∈ cls t→c ∈ clss ts:=by
  induction ts with
  | nil=>cases h
  | cons u r ih =>
    intro c hc
    simp only [clss]
    rcases List.mem_cons.mp h with rfl | h
    · exact List.mem_append_left _ hc
    · exact List.mem_append_right _ (ih h c hc)
theorem clss_snoc:∀ (ts:List Tm) (t:Tm),clss (ts ++ [t])=clss ts ++ cls t
  | [],t=>by simp [clss]
  | u :: r,t=>by rw [List.cons_append];simp only [clss,clss_snoc r t,List.append_assoc]
mutual
theorem cls_len:∀ t:Tm,(cls t).length≤sz t
  | .node l _ bs=>by
    simp only [cls,sz,List.length_append]
    have:=clss_len bs
    have h:(lcl l).length≤1:=by cases l <;> simp [lcl]
    omega
theorem clss_len:∀ ts:List Tm,(clss ts).length≤szs ts
  | []=>by simp [clss,szs]
  | t :: r=>by simp only [clss,szs,List.length_append];have h1:=cls_len t;have h2:=clss_len r;omega
end
def look (t:Tm) (p:List Int):List (Int × Int):=match atT t p with
  | some u=>lcl (lab u)
  | none=>[]
theorem look_cons {t u:Tm} {j:Nat} (h:t.bs[j]?=some u) (p:List Int):look t ((j:Int) :: p)=look u p:=by
  unfold look
  rw [atT_cons,if_pos (by omega),Int.toNat_natCast,h]
mutual
theorem cls_pl:∀ t:Tm,cls t=(pl t).flatMap (look t)
  | .node l m bs=>by
    have h0:look (.node l m bs) []=lcl l:=by unfold look;rw [atT_nil];rfl
    simp only [cls,pl,List.flatMap_cons,h0]
    rw [clss_pls (.node l m bs) 0 bs (by simp [Tree.bs])]
theorem clss_pls:∀ (t:Tm) (j:Nat) (bs:List Tm),t.bs.drop j=bs→clss bs=(pls j bs).flatMap (look t)
  | t,j,[],h=>by simp [clss,pls]
  | t,j,u :: r,h=>by
    have hj:t.bs[j]?=some u:=by
      have:=congrArg (fun l=>l[0]?) h
      simpa using this
    have hr:t.bs.drop (j + 1)=r:=by
      have:=congrArg List.tail h
      simpa using this
    simp only [clss,pls,List.flatMap_append,List.flatMap_map]
    rw [cls_pl u,clss_pls t (j + 1) r hr]
    congr 1
    congr 1
    funext p
    exact (look_cons hj p).symm
end
variable {R:Rows Lab}
variable {B B':Nat→Tm} {f:Int→Int→Tm}
end TT
namespace L2
open PySem PyProof.Rows TM TT
abbrev CALL:Str:=Str.ofString "call"
abbrev PUT:Str:=Str.ofString "put"
mutual
inductive TmV (K:PySem.W.Frag) (H:Hp):V→Tm→Prop where
  | call {a:Addr} {m b:Int}:SqT K H a [.str CALL,.int m,.int b]→TmV K H (.ref a) (.node (.call m b) 0 [])
  | put {a b:Addr} {vs:List V} {ts:List Tm} {n:Str} {k:Bool} {ad:Int}:SqT K H a [.str PUT,.str n,.bl k,.int ad,.ref b]→SqT K H b vs→TmAll K H vs ts→vs.length≤1000→TmV K H (.ref a) (.node (.put n k ad) 0 ts)
inductive TmAll (K:PySem.W.Frag) (H:Hp):List V→List Tm→Prop where
  | nil:TmAll K H [] []
  | cons {v:V} {vs:List V} {t:Tm} {ts:List Tm}:TmV K H v t→TmAll K H vs ts→TmAll K H (v :: vs) (t :: ts)
end
mutual
theorem TmV.mono {K:PySem.W.Frag} {H H':Hp} (k:∀ a xs,SqT K H a xs→SqT K H' a xs):∀ {v:V} {t:Tm},TmV K H v t→TmV K H' v t
  | _,_,.call h=>.call (k _ _ h)
  | _,_,.put h1 h2 h3 h4=>.put (k _ _ h1) (k _ _ h2) (TmAll.mono k h3) h4
theorem TmAll.mono {K:PySem.W.Frag} {H H':Hp} (k:∀ a xs,SqT K H a xs→SqT K H' a xs):∀ {vs:List V} {ts:List Tm},TmAll K H vs ts→TmAll K H' vs ts
  | _,_,.nil=>.nil
  | _,_,.cons h t=>.cons (TmV.mono k h) (TmAll.mono k t)
end
theorem TmAll.length {K:PySem.W.Frag} {H:Hp}:∀ {vs:List V} {ts:List Tm},TmAll K H vs ts→vs.length=ts.length
  | _,_,.nil=>rfl
  | _,_,.cons _ t=>by rw [List.length_cons,List.length_cons,TmAll.length t]
theorem TmAll.get {K:PySem.W.Frag} {H:Hp}:∀ {vs:List V} {ts:List Tm} {i:Nat} {t:Tm},TmAll K H vs ts→ts[i]?=some t→∃ v,vs[i]?=some v∧TmV K H v t
  | _,_,_,_,.nil,e=>by simp at e
  | _,_,0,_,.cons h _,e=>by simp at e;subst e;exact ⟨_,rfl,h⟩
  | _,_,i + 1,t,.cons _ r,e=>by
    obtain ⟨v,h1,h2⟩:=TmAll.get (i:=i) (t:=t) r (by simpa using e)
    exact ⟨v,by simpa using h1,h2⟩
theorem TmAll.append {K:PySem.W.Frag} {H:Hp}:∀ {vs ws:List V} {ts us:List Tm},TmAll K H vs ts→TmAll K H ws us→TmAll K H (vs ++ ws) (ts ++ us)
  | _,_,_,_,.nil,h=>h
  | _,_,_,_,.cons a t,h=>.cons a (TmAll.append t h)
def tdl:Lab→List PyData→PyData
  | .call m b,_=>.tuple [.str CALL,.int m,.int b]
  | .put n k a,ds=>.tuple [.str PUT,.str n,.bool k,.int a,.tuple ds]
mutual
def tmd:Tm→PyData
  | .node l _ bs=>tdl l (tmds bs)
def tmds:List Tm→List PyData
  | []=>[]
  | t :: r=>tmd t :: tmds r
end
mutual
theorem TmV.rd {K:PySem.W.Frag} {H:Hp}:∀ {v:V} {t:Tm},TmV K H v t→RdV K H v (tmd t)
  | _,_,.call h=>by
    simp only [tmd,tdl]
    exact .tup h (.cons (.str _) (.cons (.int _) (.cons (.int _) .nil)))
  | _,_,.put h1 h2 h3 _=>by
    simp only [tmd,tdl]
    exact .tup h1 (.cons (.str _) (.cons (.str _) (.cons (.bl _) (.cons (.int _) (.cons (.tup h2 (TmAll.rd h3)) .nil)))))
theorem TmAll.rd {K:PySem.W.Frag} {H:Hp}:∀ {vs:List V} {ts:List Tm},TmAll K H vs ts→RdAll K H vs (tmds ts)
  | _,_,.nil=>by simp only [tmds];exact .nil
  | _,_,.cons h t=>by simp only [tmds];exact .cons (TmV.rd h) (TmAll.rd t)
end
def MOk (d:Nat) (t:Tm):Prop:=(tmd t).canLay0=true∧(tmd t).depth≤d
end L2
namespace L2
open PySem PySem.Spec PyProof.Rows PySem.W
section
variable {X:Cx}
end
@[reducible] def strOrd:KeyOrd:=⟨List Nat,fun a b=>decide (a < b),fun a=>strKind.irrefl a,fun a b c=>strKind.trans a b c,fun a b c=>strKind.negTrans a b c,fun a b=>strKind.total a b⟩
abbrev PNx:=Addr × Str × Addr × List Str
def PairN (h:Heap) (t:PNx):Prop:=∃ (tk:Tok) (as:List Addr),h.IsTuple t.1 [Value.str t.2.1 tk,Value.ref t.2.2.1].toArray∧Reads h (.ref t.2.2.1) (.tuple (t.2.2.2.map PyData.str)) as
theorem PairN.keeps {h h':Heap} {t:PNx} (k:∀ b o,h.get? b=some o→h'.get? b=some o) (x:PairN h t):PairN h' t:=by
  obtain ⟨tk,as,h1,h2⟩:=x
  exact ⟨tk,as,IsTuple.keeps k h1,Reads.keeps k h2⟩
theorem rd_strs {K:PySem.W.Frag} {H:Hp}:∀ p:List Str,RdAll K H (p.map V.str) (p.map PyData.str)
  | []=>.nil
  | i :: r=>.cons (.str i) (rd_strs r)
theorem lay_strs:∀ p:List Str,(∀ x ∈ p,PyData.strOk x=true)→PyData.canLayAll0 (p.map PyData.str)=true
  | [],_=>by simp [PyData.canLayAll0]
  | i :: r,h=>by simp only [List.map_cons,PyData.canLayAll0,PyData.canLay0,lay_strs r fun x hx=>h x (List.mem_cons_of_mem _ hx),h i List.mem_cons_self,Bool.and_self]
theorem pairN_tups {h:Heap}:∀ {ts:List PNx},(∀ t ∈ ts,PairN h t)→∃ fs:List Value,KatTups h (ts.map fun t=>Value.ref t.1) fs∧(∀ v ∈ fs,∃ x t,v=Value.str x t)∧fs.length=ts.length
  | [],_=>⟨[],KatTups.nil,fun v hv=>(nomatch hv),rfl⟩
  | t :: r,ht=>by
    obtain ⟨tk,as,⟨o,go,gc,n,gd⟩,_⟩:=ht t List.mem_cons_self
    obtain ⟨fs,h1,h2,h3⟩:=pairN_tups fun u hu=>ht u (List.mem_cons_of_mem _ hu)
    refine ⟨Value.str t.2.1 tk :: fs,KatTups.cons go gc gd rfl h1,fun v hv=>?_,by simp [h3]⟩
    rcases List.mem_cons.mp hv with rfl | hv
    · exact ⟨_,_,rfl⟩
    · exact h2 v hv
section
variable {prog:Program} {w:World} {A:Around} {E:Value→Shared→Prop} {s:Shared}
theorem pairN_lt {t u:PNx} {C:Bool→Shared→Prop} (ht:PairN s.heap t) (hu:PairN s.heap u) (hok:∀ x ∈ t.2.2.2,PyData.strOk x=true) (hd:t.1≠u.1→t.2.1≠u.2.1) (hA:A.units + 2 < cLine) (h:C (decide (t.2.1.cps.toList < u.2.1.cps.toList)) s):wpAny (model prog w) A (keyLt' (tuples' true) (.ref t.1) (.ref u.1)) C E s:=by
  obtain ⟨tk,as,h1,h4⟩:=ht
  obtain ⟨tk2,as2,g1,g4⟩:=hu
  have lay:(PyData.tuple (t.2.2.2.map PyData.str)).canLay0=true:=by simp only [PyData.canLay0];exact lay_strs _ hok
  have dep:(PyData.tuple (t.2.2.2.map PyData.str)).depth≤1:=by simp only [PyData.depth,depth_strs];omega
  refine pair_lt h1 g1 (fun hne=>?_) (fun heq=>?_)
  · refine ⟨?_,oneLt_str h⟩
    have e:=(eqGives_str t.2.1 u.2.1 tk tk2).at A s
    have:(t.2.1 == u.2.1)=false:=by simpa using hd hne
    rw [this] at e
    exact e
  · refine ⟨?_,?_,?_⟩
    · have e:=(eqGives_str t.2.1 t.2.1 tk tk).at A s
      simpa using e
    · have e:=SeqAt.eqAt_reads _ _ A s _ _ _ _ h4 h4 lay lay (by omega)
      rw [eqv_self _ lay] at e
      exact e
    · have e1:t.2.1=u.2.1:=by
        obtain ⟨o,e,_,n,d⟩:=h1
        obtain ⟨o2,e2,_,n2,d2⟩:=g1
        rw [heq,e2] at e
        cases e
        rw [d] at d2
        injection d2 with z1 z2
        have z3:[Value.str t.2.1 tk,Value.ref t.2.2.1]=[Value.str u.2.1 tk2,Value.ref u.2.2.1]:=by simpa using congrArg Array.toList z1
        injection z3 with z4 z5
        injection z4
      rw [← e1,decide_eq_false (List.lt_irrefl _)] at h
      exact h
end
section
variable {X:Cx}
theorem call_sortedN (hu:X.A.units + 4 < cLine):CallR X (.builtin "sorted") (fun xs H Q=>∃ (l:Addr) (ts:List PNx),xs=[.ref l]∧SqL X.K H l (ts.map fun t=>V.ref t.1)∧(∀ t ∈ ts,SqT X.K H t.1 [.str t.2.1,.ref t.2.2.1]∧SqT X.K H t.2.2.1 (t.2.2.2.map V.str)∧∀ x ∈ t.2.2.2,PyData.strOk x=true)∧(ts.map fun t=>t.2.1).Nodup∧ts.length < 64 ∧
    ∀ (out:List PNx) p,out.Perm ts→(out.Pairwise fun x y=>¬ y.2.1.cps.toList < x.2.1.cps.toList)→H p=none→Q (.ref p) (upd H p (.lst (out.map fun t=>V.ref t.1)))):=by
  intro pins s σ H xs us Q I r h
  obtain ⟨l,ts,rfl,hl,ht,hnd,h64,q⟩:=h
  cases r with
  | cons r rr =>
    cases rr
    obtain rfl:_=Value.ref l:=r
    obtain ⟨its,rv,p,_⟩:=I.list hl
    obtain rfl:=vals_mapF rv
    have hP:∀ t ∈ ts,PairN s.heap t:=fun t htm=>by
      obtain ⟨h1,h2,_⟩:=ht t htm
      obtain ⟨its1,r1,p1,_⟩:=I.tuple h1
      obtain ⟨u,v,rfl,ru,rv⟩:=r1.two
      cases (show v=Value.ref _ from rv)
      obtain ⟨tk,rfl⟩:=(show ∃ tk,u=Value.str _ tk from ru)
      obtain ⟨as,q4⟩:=(RdV.tup h2 (rd_strs _)).reads I (show RelV (.ref t.2.2.1) (.ref t.2.2.1) from rfl)
      exact ⟨tk,as,p1,q4⟩
    let d:PNx:=(0,⟨#[]⟩,0,[])
    have gd:∀ i,i < ts.length→(ts.map fun t=>Value.ref t.1).getD i Value.none=.ref (ts.getD i d).1:=fun i hi=>by simp [List.getD_eq_getElem?_getD,hi]
    have md:∀ i,i < ts.length→ts.getD i d ∈ ts:=fun i hi=>by simp [List.getD_eq_getElem?_getD,hi]
    have ek:(Value.type "str" != Value.type "tuple")=true:=by decide +kernel
    refine sorted_gen strOrd (fun i=>(ts.getD i d).2.1.cps.toList) (tuples' true) p.isList (by simpa using h64) (fun s' E' Q' hs h2 hq=>?_) (fun s' i j C hs hi hj hC=>?_) fun pp o1 o2=>?_
    · obtain ⟨fs,f1,f2,f3⟩:=pairN_tups (h:=s'.heap) fun t htm=>(hP t htm).keeps hs
      refine kat_kind (T:=.type "str") f1 (by rw [f3];rw [List.length_map] at h2;omega) (fun v hv=>?_) (by decide +kernel) (by rw [ek];exact hq)
      obtain ⟨x,t,rfl⟩:=f2 v hv
      exact .now
    · rw [List.length_map] at hi hj
      rw [gd i hi,gd j hj]
      refine pairN_lt ((hP _ (md i hi)).keeps hs) ((hP _ (md j hj)).keeps hs) (ht _ (md i hi)).2.2 (fun hne he=>hne ?_) (by show X.A.units + 1 + 1 + 2 < cLine;omega) hC
      have hij:i=j:=by
        have a1:(ts.map fun t=>t.2.1)[i]'(by simpa using hi)=(ts.getD i d).2.1:=by simp [List.getD_eq_getElem?_getD,hi]
        have a2:(ts.map fun t=>t.2.1)[j]'(by simpa using hj)=(ts.getD j d).2.1:=by simp [List.getD_eq_getElem?_getD,hj]
        exact (List.getElem_inj hnd).mp (a1.trans (he.trans a2.symm))
      rw [hij]
    · rw [List.length_map] at o1 o2
      obtain ⟨w1,w2⟩:=out_gen (O:=strOrd) (ts:=ts) (d:=d) (key:=fun t=>t.2.1.cps.toList) o1 o2
      have em:(pp.toList.map fun i=>(ts.map fun t=>Value.ref t.1).getD i Value.none)=(pp.toList.map fun i=>ts.getD i d).map fun t=>Value.ref t.1:=by
        rw [List.map_map]
        refine List.map_congr_left fun i hi=>?_
        exact gd i (List.mem_range.mp (o1.mem_iff.mp hi))
      rw [em]
      generalize pp.toList.map (fun i=>ts.getD i d)=out at w1 w2
      obtain ⟨e,he⟩:=sortedAll_at s.heap (ts.map fun t=>Value.ref t.1) (out.map fun t=>Value.ref t.1).toArray
      have hfr:H (s.heap.objs.size + 1)=none:=I.hok.fresh (Nat.le_succ _)
      refine ⟨.ref (s.heap.objs.size + 1),_,I.laid (t':=s.toks) (o:=.lst (out.map fun t=>V.ref t.1)) (fun b o g=>sortedAll_old g) (Nat.le_succ _) ?_,rfl,q out _ w1 (w2.imp fun h=>by simpa using h) hfr⟩
      exact ⟨by rw [List.length_map,w1.length_eq,sizeLine_eq];omega,_,e,mapF_vals out,he⟩
end
end L2
namespace L2
open PySem PySem.Spec PyProof.Rows
section
variable {prog:Program} {w:World} {A:Around} {E:Value→Shared→Prop} {s:Shared} {it t:Addr} {i:Nat} {its:Array Value} {x:Value} {Q:Value→Shared→Prop}
theorem tupNext_item (hi:s.heap.IsTupleIter it t i) (ht:s.heap.IsTuple t its) (hx:its[i]?=some x) (q:∀ h',h'.IsTupleIter it t (i + 1)→Heap.SameBut it s.heap h'→Q x { s with heap:=h' }) :
    wpAny (model prog w) A (Builtin.SmallTypes.nextOf (.ref it)) Q E s:=by
  obtain ⟨oi,gi,ci,di⟩:=id hi
  obtain ⟨ot,gt,_,nt,dt⟩:=ht
  unfold Builtin.SmallTypes.nextOf
  refine wpAny_bind (wpAny_callSpecial?_slot (name:=Str.ofString "__next__") hi.typeIs F.slot_tuple_iterator_next (wpAny_call_entry F.slot_tuple_iterator_next hi.typeIs F.entry_tuple_iterator_next ?_ (F.args_tuple_iterator_next_1 _)))
  show wpAny _ _ (field (.ref it) 0 >>= _) _ _ s
  refine wpAny_bind (wpAny_field gi di (x:=.ref t) rfl ?_)
  show wpAny _ _ (if (Value.ref t == Value.none)=true then _ else _) _ _ s
  rw [if_neg (show ¬ ((Value.ref t == Value.none)=true) from Bool.false_ne_true)]
  show wpAny _ _ (field (.ref it) 1 >>= _) _ _ s
  refine wpAny_bind (wpAny_field gi di (x:=.int i 0) rfl ?_)
  show wpAny _ _ (seqItems? (.ref t) >>= _) _ _ s
  refine wpAny_bind (wpAny_seqItems gt dt ?_)
  simp only [Int.toNat_natCast,hx]
  refine wpAny_bind (wpAny_setField gi di (by simp) (wpAny_pure ⟨x,rfl,wpAny_pure (q _ ⟨_,Heap.get?_update_self _ gi (Obj.isFreed_of_fields (Obj.data_mapFields di _)),(Obj.cls_mapFields ..).trans ci,?_⟩ (Heap.SameBut.update ..))⟩))
  rw [Obj.data_mapFields di];simp [rawInt]
theorem tupNext_end (hh:A.handled=none) (hi:s.heap.IsTupleIter it t i) (ht:s.heap.IsTuple t its) (hx:its[i]?=none)
    (q:∀ h' e,Heap.ExtBut it s.heap h'→(∃ o,h'.get? e=some o∧o.cls=.type "StopIteration")→E (.ref e) { s with heap:=h' }):wpAny (model prog w) A (Builtin.SmallTypes.nextOf (.ref it)) Q E s:=by
  obtain ⟨oi,gi,ci,di⟩:=id hi
  obtain ⟨ot,gt,_,nt,dt⟩:=ht
  unfold Builtin.SmallTypes.nextOf
  refine wpAny_bind (wpAny_callSpecial?_slot (name:=Str.ofString "__next__") hi.typeIs F.slot_tuple_iterator_next (wpAny_call_entry F.slot_tuple_iterator_next hi.typeIs F.entry_tuple_iterator_next ?_ (F.args_tuple_iterator_next_1 _)))
  show wpAny _ _ (field (.ref it) 0 >>= _) _ _ s
  refine wpAny_bind (wpAny_field gi di (x:=.ref t) rfl ?_)
  show wpAny _ _ (if (Value.ref t == Value.none)=true then _ else _) _ _ s
  rw [if_neg (show ¬ ((Value.ref t == Value.none)=true) from Bool.false_ne_true)]
  show wpAny _ _ (field (.ref it) 1 >>= _) _ _ s
  refine wpAny_bind (wpAny_field gi di (x:=.int i 0) rfl ?_)
  show wpAny _ _ (seqItems? (.ref t) >>= _) _ _ s
  refine wpAny_bind (wpAny_seqItems gt dt ?_)
  simp only [Int.toNat_natCast,hx]
  refine wpAny_bind (wpAny_rule (wpAny_bind (wpAny_setField gi di (by simp) ?_)))
  show wpAny _ _ (newExc (.type "StopIteration") [] >>= _) _ _ _
  simp only [newExc,newTuple]
  refine wpAny_bind (wpAny_bind (wpAny_newObj_type (wpAny_bind (m:=firstArgMember _ _) (wpAny_of_eq (a:=Value.none) (by first | rfl | (simp only [firstArgMember];rfl)) (wpAny_newObj_type ?_ (by size_fits)))) (by size_fits)))
  simp only [raiseNew]
  refine wpAny_bind (wpAny_handled ?_)
  first | rw [show A.in1.handled=none from hh] | rw [hh]
  exact wpAny_bind (wpAny_pure (wpAny_throw (q _ _ (((Heap.SameBut.update ..).extBut.push _).push _) ⟨_,Heap.get?_push_size _ rfl,rfl⟩)))
end
section
variable {X:Cx} {elts:List Expr} {k1:Nat} {tpos:Pos}
end
end L2
namespace L2
open PySem PySem.Spec PyProof.Rows
section
variable {prog:Program} {w:World} {A:Around} {E:Value→Shared→Prop} {s:Shared}
theorem zipT_item {zp ti tu j1 j2 t1 t2:Addr} {n1 n2:Nat} {us vs:Array Value} {p q c d:Value} {Q:Value→Shared→Prop} (Ap:ZipApart zp ti tu j1 j2 t1 t2)
    (gz:IsZip s.heap zp ti tu .none) (gi:IsPair s.heap ti (.ref j1) (.ref j2)) (gu:IsPair s.heap tu c d)
    (w1:s.heap.IsTupleIter j1 t1 n1) (w2:s.heap.IsTupleIter j2 t2 n2) (l1:s.heap.IsTuple t1 us) (l2:s.heap.IsTuple t2 vs) (ep:us[n1]?=some p) (eq:vs[n2]?=some q)
    (k:∀ h',IsZip h' zp ti tu (rawInt s.heap.objs.size)→IsPair h' tu p q→h'.IsTupleIter j1 t1 (n1 + 1)→h'.IsTupleIter j2 t2 (n2 + 1)→IsPair h' s.heap.objs.size p q →
      (∀ b o,b≠zp→b≠tu→b≠j1→b≠j2→s.heap.get? b=some o→h'.get? b=some o)→Q (.ref s.heap.objs.size) { s with heap:=h' }) :
    wpAny (model prog w) A (Builtin.«zip.__next__» ⟨[.ref zp],[]⟩) (fun fin s'=>∃ v,fin=.done (.ret v)∧Q v s') E s:=by
  show wpAny _ _ (field (.ref zp) 2 >>= _) _ _ _
  refine wpAny_bind (wpAny_field gz rfl (x:=.bool false) rfl ?_)
  show wpAny _ _ (field (.ref zp) 3 >>= _) _ _ _
  refine wpAny_bind (wpAny_field gz rfl (x:=.ref ti) rfl ?_)
  refine wpAny_bind (wpAny_seqItems gi rfl ?_)
  show wpAny _ _ (Builtin.SmallTypes.ownedTupleIsFree (.ref zp) >>= _) _ _ _
  refine wpAny_bind ?_;(unfold Builtin.SmallTypes.ownedTupleIsFree);refine wpAny_bind (wpAny_field gz rfl (x:=.none) rfl (wpAny_pure ?_))
  simp only [if_true]
  refine wpAny_bind (wpAny_rule (wpAny_bind (wpAny_field gz rfl (x:=.ref tu) rfl ?_)))
  refine wpAny_bind (wpAny_setField_rec gz (by simp) fun ha gza sa=>?_)
  replace gza:IsZip ha zp ti tu .ellipsis:=gza
  refine wpAny_bind ?_
  simp only [List.forIn_cons,List.forIn_nil,List.zipIdx_cons,List.zipIdx_nil]
  refine wpAny_bind (wpAny_bind (wpAny_onRaise ?_))
  show wpAny _ _ (Builtin.SmallTypes.nextOf (.ref j1) >>= _) _ _ _
  refine wpAny_bind (tupNext_item (w1.extBut sa.extBut Ap.i1z) (l1.extBut sa.extBut Ap.l1z) ep fun hb w1b sb=>wpAny_pure ?_)
  have gub:IsPair hb tu c d:=sb.extBut _ _ Ap.TOi1 (sa.extBut _ _ Ap.TOz gu)
  refine wpAny_bind (wpAny_seqItems gub rfl (wpAny_bind (wpAny_updateSeq_pair gub fun hc guc sc=>?_)))
  replace guc:IsPair hc tu p d:=guc
  refine wpAny_bind (wpAny_letGo (wpAny_pure (wpAny_bind (wpAny_bind (wpAny_onRaise ?_)))))
  show wpAny _ _ (Builtin.SmallTypes.nextOf (.ref j2) >>= _) _ _ _
  refine wpAny_bind (tupNext_item (((w2.extBut sa.extBut Ap.i2z).extBut sb.extBut Ap.i12.symm).extBut sc.extBut Ap.TOi2.symm) (((l2.extBut sa.extBut Ap.l2z).extBut sb.extBut Ap.l2i1).extBut sc.extBut Ap.l2TO) eq fun hd w2d sd=>wpAny_pure ?_)
  have gud:IsPair hd tu p d:=sd.extBut _ _ Ap.TOi2 guc
  refine wpAny_bind (wpAny_seqItems gud rfl (wpAny_bind (wpAny_updateSeq_pair gud fun he gue se=>?_)))
  replace gue:IsPair he tu p q:=gue
  refine wpAny_bind (wpAny_letGo (wpAny_pure (wpAny_pure (wpAny_bind (wpAny_seqItems gue rfl (wpAny_bind (wpAny_newTuple ?_)))))))
  have size5:he.objs.size=s.heap.objs.size:=by rw [se.1,sd.1,sc.1,sb.1,sa.1]
  have gze:IsZip he zp ti tu .ellipsis:=se.extBut _ _ Ap.TOz.symm (sd.extBut _ _ Ap.i2z.symm (sc.extBut _ _ Ap.TOz.symm (sb.extBut _ _ Ap.i1z.symm gza)))
  have kept5:∀ b o,b≠zp→b≠tu→b≠j1→b≠j2→s.heap.get? b=some o→he.get? b=some o:=fun b o b1 b2 b3 b4 e=>se.extBut _ _ b2 (sd.extBut _ _ b4 (sc.extBut _ _ b2 (sb.extBut _ _ b3 (sa.extBut _ _ b1 e))))
  have w1e:he.IsTupleIter j1 t1 (n1 + 1):=((w1b.extBut sc.extBut Ap.TOi1.symm).extBut sd.extBut Ap.i12).extBut se.extBut Ap.TOi1.symm
  have w2e:he.IsTupleIter j2 t2 (n2 + 1):=w2d.extBut se.extBut Ap.TOi2.symm
  have lz:zp < he.objs.size:=Heap.lt_size gze
  show wpAny _ _ (Builtin.SmallTypes.ownedTupleHandOut (.ref zp) (.ref he.objs.size) >>= _) _ _ _
  refine wpAny_bind ?_;(unfold Builtin.SmallTypes.ownedTupleHandOut)
  have gzf:IsZip (he.push { cls:=.type "tuple", data:=.seq #[p,q] }) zp ti tu .ellipsis:=Heap.get?_push_of_some _ gze
  refine wpAny_bind (wpAny_setField_rec gzf (by simp) fun hg gzg sg=>?_)
  replace gzg:IsZip hg zp ti tu (rawInt he.objs.size):=gzg
  refine wpAny_setField_rec gzg (by simp) fun hh gzh sh=>?_
  replace gzh:IsZip hh zp ti tu (rawInt he.objs.size):=gzh
  have upw:∀ b o,b≠zp→he.get? b=some o→hh.get? b=some o:=fun b o b1 e=>sh.extBut _ _ b1 (sg.extBut _ _ b1 (Heap.get?_push_of_some _ e))
  have gnew:IsPair hh he.objs.size p q:=sh.extBut _ _ (Nat.ne_of_gt lz) (sg.extBut _ _ (Nat.ne_of_gt lz) (Heap.get?_push_size _ rfl))
  rw [size5] at gzh gnew
  refine wpAny_pure ⟨_,rfl,?_⟩
  show Q (.ref he.objs.size) _
  rw [size5]
  exact k hh gzh (upw _ _ Ap.TOz gue) (w1e.at fun o e=>upw _ o Ap.i1z e) (w2e.at fun o e=>upw _ o Ap.i2z e) gnew fun b o b1 b2 b3 b4 e=>upw b o b1 (kept5 b o b1 b2 b3 b4 e)
theorem zipT_end {zp ti tu j1 j2 t1 t2:Addr} {n1 n2:Nat} {us vs:Array Value} {c d:Value} {Q:Fin→Shared→Prop} (hh:A.handled=none) (Ap:ZipApart zp ti tu j1 j2 t1 t2)
    (gz:IsZip s.heap zp ti tu .none) (gi:IsPair s.heap ti (.ref j1) (.ref j2)) (gu:IsPair s.heap tu c d)
    (w1:s.heap.IsTupleIter j1 t1 n1) (l1:s.heap.IsTuple t1 us) (ep:us[n1]?=none)
    (k:∀ h' e,(∀ b o,b≠zp→b≠tu→b≠j1→b≠j2→s.heap.get? b=some o→h'.get? b=some o)→(∃ o,h'.get? e=some o∧o.cls=.type "StopIteration")→E (.ref e) { s with heap:=h' }) :
    wpAny (model prog w) A (Builtin.«zip.__next__» ⟨[.ref zp],[]⟩) Q E s:=by
  show wpAny _ _ (field (.ref zp) 2 >>= _) _ _ _
  refine wpAny_bind (wpAny_field gz rfl (x:=.bool false) rfl ?_)
  show wpAny _ _ (field (.ref zp) 3 >>= _) _ _ _
  refine wpAny_bind (wpAny_field gz rfl (x:=.ref ti) rfl ?_)
  refine wpAny_bind (wpAny_seqItems gi rfl ?_)
  show wpAny _ _ (Builtin.SmallTypes.ownedTupleIsFree (.ref zp) >>= _) _ _ _
  refine wpAny_bind ?_;(unfold Builtin.SmallTypes.ownedTupleIsFree);refine wpAny_bind (wpAny_field gz rfl (x:=.none) rfl (wpAny_pure ?_))
  simp only [if_true]
  refine wpAny_bind (wpAny_rule (wpAny_bind (wpAny_field gz rfl (x:=.ref tu) rfl ?_)))
  refine wpAny_bind (wpAny_setField_rec gz (by simp) fun ha gza sa=>?_)
  replace gza:IsZip ha zp ti tu .ellipsis:=gza
  refine wpAny_bind ?_
  simp only [List.forIn_cons,List.forIn_nil,List.zipIdx_cons,List.zipIdx_nil]
  refine wpAny_bind (wpAny_bind (wpAny_onRaise ?_))
  show wpAny _ _ (Builtin.SmallTypes.nextOf (.ref j1) >>= _) _ _ _
  refine wpAny_bind (tupNext_end hh (w1.extBut sa.extBut Ap.i1z) (l1.extBut sa.extBut Ap.l1z) ep fun hb e sb ge=>?_)
  obtain ⟨oe,hoe,hce⟩:=ge
  have gzb:IsZip hb zp ti tu .ellipsis:=sb _ _ Ap.i1z.symm gza
  have nez:e≠zp:=fun x=>by subst x;rw [gzb] at hoe;cases hoe;simp at hce
  refine wpAny_setField_rec gzb (by simp) fun hc _ sc=>k hc e (fun b o b1 _ b3 _ x=>sc.extBut _ _ b1 (sb _ _ b3 (sa.extBut _ _ b1 x))) ⟨oe,sc.extBut _ _ nez hoe,hce⟩
theorem pyNext_zipT_item {zp ti tu j1 j2 t1 t2:Addr} {n1 n2:Nat} {us vs:Array Value} {p q c d:Value} {Q:Option Value→Shared→Prop} (Ap:ZipApart zp ti tu j1 j2 t1 t2)
    (gz:IsZip s.heap zp ti tu .none) (gi:IsPair s.heap ti (.ref j1) (.ref j2)) (gu:IsPair s.heap tu c d)
    (w1:s.heap.IsTupleIter j1 t1 n1) (w2:s.heap.IsTupleIter j2 t2 n2) (l1:s.heap.IsTuple t1 us) (l2:s.heap.IsTuple t2 vs) (ep:us[n1]?=some p) (eq:vs[n2]?=some q)
    (k:∀ h',IsZip h' zp ti tu (rawInt s.heap.objs.size)→IsPair h' tu p q→h'.IsTupleIter j1 t1 (n1 + 1)→h'.IsTupleIter j2 t2 (n2 + 1)→IsPair h' s.heap.objs.size p q →
      (∀ b o,b≠zp→b≠tu→b≠j1→b≠j2→s.heap.get? b=some o→h'.get? b=some o)→Q (some (.ref s.heap.objs.size)) { s with heap:=h' }) :
    wpAny (model prog w) A (pyNext (.ref zp)) Q E s:=by
  have tz:s.TypeIs (.ref zp) "zip" := ⟨_,gz,rfl⟩
  unfold pyNext
  exact wpAny_bind (wpAny_attempt (wpAny_callSpecial?_slot (name:=Str.ofString "__next__") tz F.slot_zip_next (wpAny_call_entry F.slot_zip_next tz F.entry_zip_next (zipT_item Ap gz gi gu w1 w2 l1 l2 ep eq fun h' a1 a2 a3 a4 a5 a6=>wpAny_pure (k h' a1 a2 a3 a4 a5 a6)) (F.args_zip_next_1 _))))
theorem pyNext_zipT_end {zp ti tu j1 j2 t1 t2:Addr} {n1 n2:Nat} {us:Array Value} {c d:Value} {Q:Option Value→Shared→Prop} (hh:A.handled=none) (Ap:ZipApart zp ti tu j1 j2 t1 t2)
    (gz:IsZip s.heap zp ti tu .none) (gi:IsPair s.heap ti (.ref j1) (.ref j2)) (gu:IsPair s.heap tu c d) (w1:s.heap.IsTupleIter j1 t1 n1) (l1:s.heap.IsTuple t1 us) (ep:us[n1]?=none)
    (k:∀ h',(∀ b o,b≠zp→b≠tu→b≠j1→b≠j2→s.heap.get? b=some o→h'.get? b=some o)→Q none { s with heap:=h' }):wpAny (model prog w) A (pyNext (.ref zp)) Q E s:=by
  have tz:s.TypeIs (.ref zp) "zip" := ⟨_,gz,rfl⟩
  unfold pyNext
  refine wpAny_bind (wpAny_attempt (wpAny_callSpecial?_slot (name:=Str.ofString "__next__") tz F.slot_zip_next (wpAny_call_entry F.slot_zip_next tz F.entry_zip_next (zipT_end hh (n2:=n2) (vs:=us) Ap gz gi gu w1 l1 ep fun h' e hk ge=>?_) (F.args_zip_next_1 _))))
  obtain ⟨o,ho,hc⟩:=ge
  exact wpAny_bind (wpAny_isInstance (T:="StopIteration") (b:=true) ⟨o,ho,hc⟩ isSubtype_stop (wpAny_pure (k _ hk)))
abbrev zT1 (h:Heap) (t1:Addr):Heap:=h.push { cls:=.type "tuple_iterator", data:=.fields #[.ref t1,.int 0 0] }
abbrev zT2 (h:Heap) (t1 t2:Addr):Heap:=(zT1 h t1).push { cls:=.type "tuple_iterator", data:=.fields #[.ref t2,.int 0 0] }
abbrev zT3 (h:Heap) (t1 t2:Addr):Heap:=(zT2 h t1 t2).push { cls:=.type "tuple", data:=.seq #[.ref h.objs.size,.ref (zT1 h t1).objs.size] }
abbrev zT4 (h:Heap) (t1 t2:Addr):Heap:=(zT3 h t1 t2).push { cls:=.type "tuple", data:=.seq #[.none,.none] }
abbrev zT5 (h:Heap) (t1 t2:Addr):Heap:=(zT4 h t1 t2).push { cls:=.type "zip", data:=.fields #[.none,.bool false,.bool false,.ref (zT2 h t1 t2).objs.size,.ref (zT3 h t1 t2).objs.size] }
theorem zipT_new (t1 t2:Addr) (us vs:Array Value) :
    Meets (Builtin.«zip.__new__» ⟨[.type "zip", .ref t1,.ref t2],[]⟩) (fun _ R s=>s.heap.IsTuple t1 us∧s.heap.IsTuple t2 vs ∧
      R (.ok (.ret (.ref (zT4 s.heap t1 t2).objs.size))) { s with heap:=zT5 s.heap t1 t2 }) :=
  .of_wp fun prog w A R s h=>by
    obtain ⟨hp,g,d,tk,os⟩:=s;obtain ⟨l1,l2,h⟩:=h
    have hsub:=sub_zip
    have L1:Heap.IsTuple (Shared.heap ⟨hp,g,d,tk,os⟩) t1 us:=l1
    have L2:Heap.IsTuple (Shared.heap ⟨hp.push { cls:=.type "tuple_iterator", data:=.fields #[.ref t1,.int 0 0] },g,d,tk,os⟩) t2 vs:=let ⟨o,e,r⟩:=l2;⟨o,Heap.get?_push_of_some _ e,r⟩
    wp_walk using wpAny_pyIter_tuple L1,wpAny_pyIter_tuple L2
    exact ⟨_,rfl,h⟩
theorem call_zipT {t1 t2:Addr} {us vs:Array Value} {Q:Value→Shared→Prop} (l1:s.heap.IsTuple t1 us) (l2:s.heap.IsTuple t2 vs)
    (h:∀ h',IsZip h' (s.heap.objs.size + 4) (s.heap.objs.size + 2) (s.heap.objs.size + 3) .none→IsPair h' (s.heap.objs.size + 2) (.ref s.heap.objs.size) (.ref (s.heap.objs.size + 1)) →
      IsPair h' (s.heap.objs.size + 3) .none .none→h'.IsTupleIter s.heap.objs.size t1 0→h'.IsTupleIter (s.heap.objs.size + 1) t2 0 →
      (∀ c o,s.heap.get? c=some o→h'.get? c=some o)→Q (.ref (s.heap.objs.size + 4)) { s with heap:=h' }) :
    wpAny (model prog w) A (call (.type "zip") [.ref t1,.ref t2]) Q E s:=by
  refine callType_new F.called_zip (by decide) (F.typeCall_zip_2 _ _) (F.newCall_zip_2 _ _) (fun obj=>F.args_object_init_3 obj _ _) F.entry_zip_new (zipT_new t1 t2 us vs) ⟨l1,l2,?_⟩
  have q1:(zT1 s.heap t1).objs.size=s.heap.objs.size + 1:=Heap.size_push ..
  have q2:(zT2 s.heap t1 t2).objs.size=s.heap.objs.size + 2:=by rw [Heap.size_push,q1]
  have q3:(zT3 s.heap t1 t2).objs.size=s.heap.objs.size + 3:=by rw [Heap.size_push,q2]
  have q4:(zT4 s.heap t1 t2).objs.size=s.heap.objs.size + 4:=by rw [Heap.size_push,q3]
  have r5:(zT5 s.heap t1 t2).get? (zT4 s.heap t1 t2).objs.size=some _:=Heap.get?_push_size _ rfl
  have r4:(zT5 s.heap t1 t2).get? (zT3 s.heap t1 t2).objs.size=some _:=Heap.get?_push_of_some _ (Heap.get?_push_size _ rfl)
  have r3:(zT5 s.heap t1 t2).get? (zT2 s.heap t1 t2).objs.size=some _:=Heap.get?_push_of_some _ (Heap.get?_push_of_some _ (Heap.get?_push_size _ rfl))
  have r2:(zT5 s.heap t1 t2).get? (zT1 s.heap t1).objs.size=some _:=Heap.get?_push_of_some _ (Heap.get?_push_of_some _ (Heap.get?_push_of_some _ (Heap.get?_push_size _ rfl)))
  have r1:(zT5 s.heap t1 t2).get? s.heap.objs.size=some _:=Heap.get?_push_of_some _ (Heap.get?_push_of_some _ (Heap.get?_push_of_some _ (Heap.get?_push_of_some _ (Heap.get?_push_size _ rfl))))
  show _∧_
  rw [q2,q3,q4] at r5
  rw [q1,q2] at r3
  rw [q3] at r4
  rw [q1] at r2
  rw [q4]
  exact ⟨⟨_,r5,rfl⟩,h _ r5 r3 r4 ⟨_,r1,rfl,rfl⟩ ⟨_,r2,rfl,rfl⟩ fun b o x=>Heap.get?_push_of_some _ (Heap.get?_push_of_some _ (Heap.get?_push_of_some _ (Heap.get?_push_of_some _ (Heap.get?_push_of_some _ x))))⟩
end
def ItzT (K:PySem.W.Frag) (a b:Addr) (xs ys:List V):It :=
  ⟨fun i H=>SqT K H a xs∧SqT K H b ys∧i < xs.length∧i < ys.length,
   fun i H x H'=>∃ p u v,H p=none∧x=.ref p∧H'=upd H p (.tup [u,v])∧xs[i]?=some u∧ys[i]?=some v,
   fun i H=>SqT K H a xs∧xs.length≤i⟩
theorem turn_zipT {P:Program} {w:World} {K:PySem.W.Frag} {elts:List Expr} {k1:Nat} {pos:Pos} (a b z:Addr) (xs ys:List V) (TI TO i1 i2:Addr) (Ap:ZipApart z TI TO i1 i2 a b) :
    Turn P w K (.Tuple elts k1 pos) (ItzT K a b xs ys) [z,TI,TO,i1,i2] z (fun i h=>IsZip h z TI TO .none∧IsPair h TI (.ref i1) (.ref i2)∧(∃ u v,IsPair h TO u v)∧h.IsTupleIter i1 a i∧h.IsTupleIter i2 b i) where
  mem:=by simp
  obj:=fun i h st c hc=>by
    obtain ⟨hz,hTI,⟨u,v,hTO⟩,h1,h2⟩:=st
    simp only [List.mem_cons,List.mem_nil_iff,or_false] at hc
    rcases hc with rfl | rfl | rfl | rfl | rfl
    · exact ⟨_,hz,fun v z=>by have z':Data.fields _=Data.cell v:=z;cases z'⟩
    · exact ⟨_,hTI,fun v z=>by have z':Data.seq _ _=Data.cell v:=z;cases z'⟩
    · exact ⟨_,hTO,fun v z=>by have z':Data.seq _ _=Data.cell v:=z;cases z'⟩
    · obtain ⟨o,e,c,d⟩:=h1;exact ⟨o,e,fun v z=>by rw [d] at z;cases z⟩
    · obtain ⟨o,e,c,d⟩:=h2;exact ⟨o,e,fun v z=>by rw [d] at z;cases z⟩
  keep:=fun i h h' st k=>by
    obtain ⟨hz,hTI,⟨u,v,hTO⟩,h1,h2⟩:=st
    exact ⟨k z (by simp) _ hz,k TI (by simp) _ hTI,⟨u,v,k TO (by simp) _ hTO⟩,h1.at fun o e=>k i1 (by simp) o e,h2.at fun o e=>k i2 (by simp) o e⟩
  item:=by
    intro X hP hw hK hc i pins s σ H E I hf st hg
    subst hP hw hK
    obtain ⟨hz,hTI,⟨u0,v0,hTO⟩,h1,h2⟩:=st
    obtain ⟨qa,qb,lx,ly⟩:=hg
    obtain ⟨its,rv,p,_⟩:=I.tuple qa
    obtain ⟨its2,rv2,p2,_⟩:=I.tuple qb
    have ex:xs[i]?=some xs[i]:=List.getElem?_eq_getElem lx
    have ey:ys[i]?=some ys[i]:=List.getElem?_eq_getElem ly
    obtain ⟨u,hu,ru⟩:=rv.get ex
    obtain ⟨v,hv,rv'⟩:=rv2.get ey
    refine pyNext_zipT_item Ap hz hTI hTO h1 h2 p p2 (p:=u) (q:=v) (by simpa using hu) (by simpa using hv) fun h' a1 a2 a3 a4 a5 hk=>?_
    refine ⟨.ref s.heap.objs.size,rfl,wpAny_letOwnedTupleGo_zip (s:={ s with heap:=h' }) a1 fun h'' hz' hs'=>?_⟩
    have lt:∀ {c o},s.heap.get? c=some o→c≠s.heap.objs.size:=fun e=>Nat.ne_of_lt (Heap.lt_size e)
    have e5:IsPair h'' s.heap.objs.size u v:=(hs'.2 _ (Ne.symm (lt hz))).trans a5
    have hch:∀ c ∈ [z,TO,i1,i2],FpOk X pins H c:=fun c hc=>hf c (by
      simp only [List.mem_cons,List.mem_nil_iff,or_false] at hc ⊢
      rcases hc with rfl | rfl | rfl | rfl <;> simp)
    have I2:Inv X pins σ (upd H s.heap.objs.size (.tup [xs[i],ys[i]])) { s with heap:=h'',toks:=s.toks }:=by
      refine I.turnedNew (ch:=[z,TO,i1,i2]) (fun c o hc e=>?_) hch (Nat.le_refl _) ⟨by show 2≤sizeLine;decide,[u,v],.cons ru (.cons rv' .nil),⟨_,e5,rfl,_,rfl⟩⟩
      simp only [List.mem_cons,List.mem_nil_iff,or_false,not_or] at hc
      exact (hs'.2 c hc.1).trans (hk c o hc.1 hc.2.1 hc.2.2.1 hc.2.2.2 e)
    have hfr:∀ c ∈ [z,TI,TO,i1,i2],upd H s.heap.objs.size (.tup [xs[i],ys[i]]) c=none:=fun c hc=>by
      have hc2:=hf c hc
      have:c≠s.heap.objs.size:=by
        simp only [List.mem_cons,List.mem_nil_iff,or_false] at hc
        rcases hc with rfl | rfl | rfl | rfl | rfl
        · exact lt hz
        · exact lt hTI
        · exact lt hTO
        · obtain ⟨o,e,_⟩:=h1;exact lt e
        · obtain ⟨o,e,_⟩:=h2;exact lt e
      rw [upd_ne this];exact hc2.1
    exact ⟨.ref s.heap.objs.size,_,I2,rfl,⟨s.heap.objs.size,_,_,I.fresh,rfl,rfl,ex,ey⟩,⟨hz',hs'.extBut _ _ Ap.TIz (hk _ _ Ap.TIz Ap.TITO Ap.TIi1 Ap.TIi2 hTI),⟨_,_,hs'.extBut _ _ Ap.TOz a2⟩,a3.extBut hs'.extBut Ap.i1z,a4.extBut hs'.extBut Ap.i2z⟩,hfr⟩
  done:=by
    intro X hP hw hK hc i pins s σ H E I hf st hg
    subst hP hw hK
    obtain ⟨hz,hTI,⟨u0,v0,hTO⟩,h1,h2⟩:=st
    obtain ⟨qa,hl⟩:=hg
    obtain ⟨its,rv,p,_⟩:=I.tuple qa
    have l1:=rv.length
    have hch:∀ c ∈ [z,TO,i1,i2],FpOk X pins H c:=fun c hc=>hf c (by
      simp only [List.mem_cons,List.mem_nil_iff,or_false] at hc ⊢
      rcases hc with rfl | rfl | rfl | rfl <;> simp)
    refine pyNext_zipT_end (n2:=0) (I.ok.hd hc) Ap hz hTI hTO h1 p (by simp;omega) fun h' hk=>⟨rfl,I.turnedL (t':=s.toks) (ch:=[z,TO,i1,i2]) (fun c o hc e=>?_) hch⟩
    simp only [List.mem_cons,List.mem_nil_iff,or_false,not_or] at hc
    exact hk c o hc.1 hc.2.1 hc.2.2.1 hc.2.2.2 e
  self:=fun _ _ _ _ _ st h=>wpAny_pyIter_zip st.1 h
section
variable {X:Cx} {elts:List Expr} {k1:Nat} {tpos:Pos}
def iZipT (K:PySem.W.Frag) (ta:TA):TI:=fun σ H R=>ta σ H fun vs H1=>∃ a b xs ys,vs=[.ref a,.ref b]∧SqT K H1 a xs∧SqT K H1 b ys∧R (ItzT K a b xs ys) H1
theorem pi_zipT {e1 e2:Expr} {ta:TA} {p pos:Pos} (hg:Gl X "zip") (hm:X.mg "zip" = none) (ha:PA X [e1,e2] ta) (hs:starEach [e1,e2] X.env=[(false,eval e1 X.env),(false,eval e2 X.env)]:=by rfl) (hs2:starEach [e2] X.env=[(false,eval e2 X.env)]:=by rfl) :
    PI X (.Tuple elts k1 tpos) (.Call (.Name "zip" p) [e1,e2] [] pos) (iZipT X.K ta):=by
  intro pins s σ H R I h
  refine Call_ (ld_blt I hg hm PyProof.Rows.boot_zip (PyProof.Rows.callWith_type1 (thn (ha pos pins s σ H _ I h) fun us s1 ⟨vs,H1,I1,r1,q1⟩=>?_) (by rw [hs,hs2]) (by rw [hs2];rfl)))
  obtain ⟨a,b,xs,ys,e,qa,qb,q⟩:=q1
  subst e
  obtain ⟨u1,u2,e3,r3,r4⟩:=r1.two
  subst e3
  cases (show u1=Value.ref a from r3)
  cases (show u2=Value.ref b from r4)
  obtain ⟨its,rv,pl,_⟩:=I1.tuple qa
  obtain ⟨its2,rv2,pl2,_⟩:=I1.tuple qb
  have la:@LT.lt Nat _ a s1.heap.objs.size:=by obtain ⟨o,e,_⟩:=pl;exact Heap.lt_size e
  have lb:@LT.lt Nat _ b s1.heap.objs.size:=by obtain ⟨o,e,_⟩:=pl2;exact Heap.lt_size e
  refine call_zipT pl pl2 fun h' hz hTI hTO h1 h2 hk=>?_
  refine wpAny_pyIter_zip hz ?_
  have I2:Inv X pins σ H1 { s1 with heap:=h' }:=I1.kept (t':=s1.toks) hk
  refine ⟨s1.heap.objs.size + 4,[s1.heap.objs.size + 4,s1.heap.objs.size + 2,s1.heap.objs.size + 3,s1.heap.objs.size,s1.heap.objs.size + 1],_,_,H1,rfl,I2,
    turn_zipT a b (s1.heap.objs.size + 4) xs ys (s1.heap.objs.size + 2) (s1.heap.objs.size + 3) s1.heap.objs.size (s1.heap.objs.size + 1) ?_,⟨hz,hTI,⟨_,_,hTO⟩,h1,h2⟩,fun c hc=>?_,q⟩
  · constructor <;> (refine nne ?_;omega)
  · have hle:@LE.le Nat _ s1.heap.objs.size c:=by
      simp only [List.mem_cons,List.mem_nil_iff,or_false] at hc
      rcases hc with rfl | rfl | rfl | rfl | rfl <;> omega
    exact I1.fpOk hle (I1.hok.fresh hle)
end
theorem c2_zipT {K:PySem.W.Frag} {a b acc:Addr} {xs zs:List V} {tt:TT} {te:TE} {cs:St} {H1:Hp} {Q:Hp→Prop} (hlen:xs.length=zs.length) (Pv:Nat→List V→Hp→Prop) (h0:Pv 0 [] (upd H1 acc (.lst []))) (hl:∀ i ys H,i≤xs.length→Pv i ys H→SqT K H a xs∧SqT K H b zs)
    (hs:∀ i u v p ys H,i < xs.length→xs[i]?=some u→zs[i]?=some v→H p=none→Pv i ys H→tt (some u :: some v :: cs) (upd H p (.tup [u,v])) (CKon xs.length Pv acc i te (some u :: some v :: cs))) (hd:∀ ys H,Pv xs.length ys H→Q H):CGoal (ItzT K a b xs zs) 2 cs (gTup K 2 (gCons (gName 0) (gCons (gName 1) gNil))) tt te H1 acc Q:=by
  refine compG_drive (N:=xs.length) Pv h0 (fun ys H p=>?_) fun i ys H hi p=>?_
  · obtain ⟨qa,qb⟩:=hl _ _ _ (Nat.le_refl _) p
    exact ⟨⟨qa,Nat.le_refl _⟩,hd ys H p⟩
  · obtain ⟨qa,qb⟩:=hl _ _ _ (Nat.le_of_lt hi) p
    refine ⟨⟨qa,qb,hi,by omega⟩,?_⟩
    rintro x H3 ⟨q,u,v,hq,rfl,rfl,hu,hv⟩ as has
    obtain ⟨a0,a1,rfl⟩:=len_two has
    exact ⟨q,[u,v],rfl,SqT.of upd_same,rfl,u,[v],rfl,v,[],rfl,rfl,⟨[some u,some v],rfl,rfl⟩,hs i u v q ys _ hi hu hv hq p⟩
end L2
namespace L2
open PySem PySem.Spec PyProof.Rows
theorem cutTo (xs:List V) (k:Nat):cutV xs none (some (k:Int))=xs.take k:=by
  unfold cutV
  rw [HT.sIx_none,HT.sIx_nat,List.drop_zero,Nat.sub_zero]
  by_cases h:k≤xs.length
  · rw [Nat.min_eq_left h]
  · rw [Nat.min_eq_right (by omega),List.take_of_length_le (Nat.le_refl _),List.take_of_length_le (by omega)]
theorem ixN_nat {n k:Nat} (h:k < n):ixN n (k:Int)=some k:=by
  unfold ixN
  rw [if_pos (by omega),if_pos (by omega)];simp
theorem size_line:sizeLine=16777216:=by decide
theorem line_of {n:Nat} (h:n≤5000):n≤sizeLine:=by rw [size_line];omega
end L2
namespace K9
open PySem L2 TM
mutual
def isT (f:Str→Str→Option (List Str)):Tree Str→Str→Bool
  | .node n _ bs,k=>match f k n with
    | none=>false
    | some ss=>decide (ss.length=bs.length) && isTs f bs ss
def isTs (f:Str→Str→Option (List Str)):List (Tree Str)→List Str→Bool
  | [],ss=>ss.isEmpty
  | b :: bs,ss=>match ss with
    | []=>false
    | s :: r=>isT f b s && isTs f bs r
end
theorem isT_bs (f:Str→Str→Option (List Str)) {t:Tree Str} {n:Str} {m:Int} {bs:List (Tree Str)} (e:t=.node n m bs) (k:Str):isT f t k=match f k n with
    | none=>false
    | some ss=>decide (ss.length=bs.length) && isTs f bs ss:=by subst e;simp only [isT]
theorem isTs_all (f:Str→Str→Option (List Str)):∀ (bs:List (Tree Str)) (ss:List Str),ss.length=bs.length→isTs f bs ss=(List.zipWith (fun s b=>isT f b s) ss bs).all id
  | [],[],_=>by simp [isTs]
  | [],_ :: _,h=>by simp at h
  | _ :: _,[],h=>by simp at h
  | b :: bs,s :: ss,h=>by
    simp only [isTs,List.zipWith_cons_cons,List.all_cons,id]
    rw [isTs_all f bs ss (by simpa using h)]
mutual
def td:Tree Str→PyData
  | .node n m bs=>.tuple [.str n,.int m,.tuple (tds bs)]
def tds:List (Tree Str)→List PyData
  | []=>[]
  | t :: r=>td t :: tds r
end
mutual
theorem TrV.rd {K:PySem.W.Frag} {H:Hp}:∀ {v:V} {t:Tree Str},TrV K H v t→RdV K H v (td t)
  | _,_,.mk h1 h2 h3 _=>by
    simp only [td]
    exact .tup h1 (.cons (.str _) (.cons (.int _) (.cons (.tup h2 (TrAll.rd h3)) .nil)))
theorem TrAll.rd {K:PySem.W.Frag} {H:Hp}:∀ {vs:List V} {ts:List (Tree Str)},TrAll K H vs ts→RdAll K H vs (tds ts)
  | _,_,.nil=>by simp only [tds];exact .nil
  | _,_,.cons h t=>by simp only [tds];exact .cons (TrV.rd h) (TrAll.rd t)
end
def LayT (t:Tree Str):Prop:=(td t).canLay0=true
theorem lay_tds:∀ ts:List (Tree Str),(∀ t ∈ ts,LayT t)→PyData.canLayAll0 (tds ts)=true
  | [],_=>by simp [tds,PyData.canLayAll0]
  | t :: r,h=>by
    have h1:(td t).canLay0=true:=h t List.mem_cons_self
    simp only [tds,PyData.canLayAll0,h1,lay_tds r fun u hu=>h u (List.mem_cons_of_mem _ hu),Bool.and_self]
theorem LayT.node {n:Str} {m:Int} {ts:List (Tree Str)} (hn:PyData.strOk n=true) (h:∀ t ∈ ts,LayT t):LayT (.node n m ts):=by
  unfold LayT
  simp only [td,PyData.canLay0,PyData.canLayAll0,hn,lay_tds ts h,Bool.and_self]
theorem of_lay_tds:∀ ts:List (Tree Str),PyData.canLayAll0 (tds ts)=true→∀ t ∈ ts,LayT t
  | [],_=>fun t ht=>by cases ht
  | u :: r,h=>fun t ht=>by
    simp only [tds,PyData.canLayAll0,Bool.and_eq_true] at h
    rcases List.mem_cons.mp ht with rfl | ht
    · exact h.1
    · exact of_lay_tds r h.2 t ht
theorem LayT.bs {t:Tree Str} (h:LayT t):∀ u ∈ t.bs,LayT u:=by
  cases t with
  | node n m bs =>
    unfold LayT at h
    simp only [td,PyData.canLay0,PyData.canLayAll0,Bool.and_eq_true] at h
    exact of_lay_tds bs h.2.2.1
abbrev KdT:=Addr × Str × Addr × List PNx
def RowAt (K:PySem.W.Frag) (H:Hp) (t:PNx):Prop:=SqT K H t.1 [.str t.2.1,.ref t.2.2.1]∧SqT K H t.2.2.1 (t.2.2.2.map V.str)
def RowsL (K:PySem.W.Frag) (H:Hp) (lr:Addr) (rs:List PNx):Prop:=SqL K H lr (rs.map fun t=>V.ref t.1)∧∀ t ∈ rs,RowAt K H t
def WoodAt (K:PySem.W.Frag) (H:Hp) (w:Addr) (ks:List KdT):Prop:=SqL K H w (ks.map fun k=>V.ref k.1)∧∀ k ∈ ks,SqT K H k.1 [.str k.2.1,.ref k.2.2.1]∧RowsL K H k.2.2.1 k.2.2.2
theorem RowAt.same {K:PySem.W.Frag} {H H':Hp} {t:PNx} (g:Same H H') (h:RowAt K H t):RowAt K H' t:=⟨g.seqT h.1,g.seqT h.2⟩
theorem RowsL.same {K:PySem.W.Frag} {H H':Hp} {lr:Addr} {rs:List PNx} (g:Same H H') (h:RowsL K H lr rs):RowsL K H' lr rs:=⟨g.seq h.1,fun t ht=>(h.2 t ht).same g⟩
theorem WoodAt.same {K:PySem.W.Frag} {H H':Hp} {w:Addr} {ks:List KdT} (g:Same H H') (h:WoodAt K H w ks):WoodAt K H' w ks:=⟨g.seq h.1,fun k hk=>⟨g.seqT (h.2 k hk).1,(h.2 k hk).2.same g⟩⟩
structure RowsOk (rs:List PNx):Prop where
  nd:(rs.map fun t=>t.2.1).Nodup
  len:rs.length≤10
  nm:∀ r ∈ rs,PyData.strOk r.2.1=true
  kn:∀ r ∈ rs,∀ x ∈ r.2.2.2,PyData.strOk x=true
  kl:∀ r ∈ rs,r.2.2.2.length≤4
structure WoodOk (ks:List KdT):Prop where
  nd:(ks.map fun k=>k.2.1).Nodup
  len:ks.length≤10
  rows:∀ k ∈ ks,RowsOk k.2.2.2
def rowsK (ks:List KdT) (kind:Str):List PNx:=((ks.find? fun k=>decide (k.2.1=kind)).map fun k=>k.2.2.2).getD []
def rowK (ks:List KdT) (kind name:Str):Option (List Str):=((rowsK ks kind).find? fun r=>decide (r.2.1=name)).map fun r=>r.2.2.2
theorem val_map {α:Type} (f:α→Str) (g:α→V) (z:Str):∀ l:List α,valV (l.map fun x=>((Sum.inr (f x):Key),g x)) (Sum.inr z)=(l.find? fun x=>decide (f x=z)).map g
  | []=>rfl
  | x :: r=>by
    rw [List.map_cons,List.find?_cons]
    by_cases e:f x=z
    · rw [valV_pos (p:=((Sum.inr (f x):Key),g x)) (by rw [e]),decide_eq_true e];rfl
    · rw [valV_neg (p:=((Sum.inr (f x):Key),g x)) (fun q=>e (by injection q)),decide_eq_false e]
      exact val_map f g z r
theorem rowsK_ok {ks:List KdT} (h:WoodOk ks) (kind:Str):RowsOk (rowsK ks kind):=by
  unfold rowsK
  cases e:ks.find? fun k=>decide (k.2.1=kind) with
  | none=>exact ⟨List.nodup_nil,Nat.zero_le _,fun r hr=>(nomatch hr),fun r hr=>(nomatch hr),fun r hr=>(nomatch hr)⟩
  | some k=>exact h.rows k (List.mem_of_find?_eq_some e)
def RowV (K:PySem.W.Frag) (H:Hp) (v:V):Option (List Str)→Prop
  | none=>v=.non
  | some ss=>∃ b,v=.ref b∧SqT K H b (ss.map V.str)
theorem tr_open {K:PySem.W.Frag} {H:Hp} {v:V} {t:Tree Str} (h:TrV K H v t):∃ a b vs name mark,v=.ref a∧t=.node name mark t.bs∧SqT K H a [.str name,.int mark,.ref b]∧SqT K H b vs∧TrAll K H vs t.bs∧vs.length≤1000:=by
  cases h with
  | mk h1 h2 h3 h4=>exact ⟨_,_,_,_,_,rfl,rfl,h1,h2,h3,h4⟩
end K9
namespace K11
open PySem L2 TM TT K9
def kpl:Lab→Bool
  | .call _ _=>false
  | .put _ k _=>k
mutual
def kp:Tm→Bool
  | .node l _ bs=>kpl l || kps bs
def kps:List Tm→Bool
  | []=>false
  | t :: r=>kp t || kps r
end
def fit1 (mk ks:List Str) (c:Int × Int):Bool:=decide (0≤c.1) && decide (c.1 < mk.length) && decide (0≤c.2) && decide (c.2 < ks.length) && decide (mk[c.1.toNat]?=ks[c.2.toNat]?)
def fitT (mk ks:List Str) (t:Tm):Bool:=(cls t).all (fit1 mk ks)
abbrev Md:=Str × List Tm
abbrev MdT:=Addr × Str × Addr × List V × List Tm
def MdT.md (m:MdT):Md:=(m.2.1,m.2.2.2.2)
def MdAt (K:PySem.W.Frag) (H:Hp) (m:MdT):Prop:=SqT K H m.1 [.str m.2.1,.ref m.2.2.1]∧SqL K H m.2.2.1 m.2.2.2.1∧TmAll K H m.2.2.2.1 m.2.2.2.2
def ModesL (K:PySem.W.Frag) (H:Hp) (lm:Addr) (ms:List MdT):Prop:=SqL K H lm (ms.map fun m=>V.ref m.1)∧∀ m ∈ ms,MdAt K H m
theorem MdAt.same {K:PySem.W.Frag} {H H':Hp} {m:MdT} (g:Same H H') (h:MdAt K H m):MdAt K H' m:=⟨g.seqT h.1,g.seq h.2.1,h.2.2.mono fun _ _=>g.seqT⟩
theorem ModesL.same {K:PySem.W.Frag} {H H':Hp} {lm:Addr} {ms:List MdT} (g:Same H H') (h:ModesL K H lm ms):ModesL K H' lm ms:=⟨g.seq h.1,fun m hm=>(h.2 m hm).same g⟩
structure TmOk (t:Tm):Prop where
  lv:lv t≤8
  sz:sz t≤100
  mok:MOk 20 t
structure ModesOk (ms:List Md):Prop where
  len:ms.length≤20
  kd:∀ m ∈ ms,PyData.strOk m.1=true
  rl:∀ m ∈ ms,m.2.length≤30
  tm:∀ m ∈ ms,∀ t ∈ m.2,TmOk t
abbrev mds (ms:List MdT):List Md:=ms.map MdT.md
abbrev mks (ms:List Md):List Str:=ms.map (·.1)
def rulesFit (ks:List KdT) (mk:List Str) (m:Md):Bool :=
  decide ((rowsK ks m.1).length≠0) && decide (m.2.length=(rowsK ks m.1).length) && (List.zipWith (fun (r:PNx) t=>fitT mk r.2.2.2 t) (rowsK ks m.1) m.2).all id
def ruleK (ks:List KdT) (m:Md) (name:Str):Option Tm:=(((rowsK ks m.1).zip m.2).find? fun x=>decide (x.1.2.1=name)).map (·.2)
def TmO (K:PySem.W.Frag) (H:Hp) (v:V):Option Tm→Prop
  | none=>v=.non
  | some t=>TmV K H v t
end K11
namespace K26
open PySem L2 TM TT K9 K11
def nmT:Tree Str→Str
  | .node n _ _=>n
def mkT:Tree Str→Int
  | .node _ m _=>m
def nextR (ks:List KdT) (ms:List Md) (t:Tm) (r:Tree Str):Option (Tm × Tree Str) :=
  match lab t with
  | .put _ _ _=>none
  | .call m b=>match r.bs[b.toNat]? with
    | none=>none
    | some c=>match ms[m.toNat]? with
      | none=>none
      | some md=>match ruleK ks md (nmT c) with
        | none=>none
        | some u=>some (u,c)
def comeN (ks:List KdT) (ms:List Md):Nat→Tm × Tree Str→Tm × Tree Str
  | 0,p=>p
  | n + 1,p=>match nextR ks ms p.1 p.2 with
    | none=>p
    | some q=>comeN ks ms n q
theorem nextR_bs {ks:List KdT} {ms:List Md} {t:Tm} {r:Tree Str} {q:Tm × Tree Str} (h:nextR ks ms t r=some q):q.2 ∈ r.bs:=by
  unfold nextR at h
  cases hl:lab t with
  | put n k a=>rw [hl] at h;cases h
  | call m b =>
    rw [hl] at h
    simp only at h
    cases hb:r.bs[b.toNat]? with
    | none=>rw [hb] at h;cases h
    | some c =>
      rw [hb] at h
      simp only at h
      cases hm:ms[m.toNat]? with
      | none=>rw [hm] at h;cases h
      | some md =>
        rw [hm] at h
        simp only at h
        cases hu:ruleK ks md (nmT c) with
        | none=>rw [hu] at h;cases h
        | some u =>
          rw [hu] at h
          obtain rfl:=Option.some.inj h
          exact List.mem_of_getElem? hb
theorem comeN_succ {ks:List KdT} {ms:List Md}:∀ (n:Nat) (p:Tm × Tree Str),lv p.2≤n→comeN ks ms (n + 1) p=comeN ks ms n p
  | 0,p,h=>by rw [lv_bs] at h;omega
  | n + 1,p,h=>by
    rw [comeN]
    conv=>rhs;rw [comeN]
    cases e:nextR ks ms p.1 p.2 with
    | none=>rfl
    | some q =>
      have h1:=lv_le (nextR_bs e)
      rw [lv_bs] at h
      exact comeN_succ n q (by omega)
def come (ks:List KdT) (ms:List Md) (p:Tm × Tree Str):Tm × Tree Str:=comeN ks ms 60 p
theorem come_next {ks:List KdT} {ms:List Md} {p q:Tm × Tree Str} (hl:lv p.2≤60) (h:nextR ks ms p.1 p.2=some q):come ks ms p=come ks ms q:=by
  have h1:=lv_le (nextR_bs h)
  rw [lv_bs] at hl
  unfold come
  rw [comeN_succ 59 q (by omega)]
  rw [comeN,h]
theorem come_put {ks:List KdT} {ms:List Md} {p:Tm × Tree Str} (h:isC (lab p.1)=false):come ks ms p=p:=by
  unfold come
  rw [comeN]
  have:nextR ks ms p.1 p.2=none:=by
    unfold nextR
    cases hl:lab p.1 with
    | put n k a=>rfl
    | call m b=>rw [hl] at h;cases h
  rw [this]
structure Tu where
  ks:List KdT
  k0:Str
  start:Tm
  ms:List Md
structure TuOk (T:Tu):Prop where
  rf:∀ m ∈ T.ms,rulesFit T.ks (mks T.ms) m=true
  st:fitT (mks T.ms) [T.k0] T.start=true
def St (T:Tu) (p:Tm × Tree Str):Prop:=∃ kinds,fitT (mks T.ms) kinds p.1=true∧kinds.length=p.2.bs.length∧isTs (rowK T.ks) p.2.bs kinds=true
theorem isTs_at {f:Str→Str→Option (List Str)}:∀ {bs:List (Tree Str)} {ss:List Str} {i:Nat} {b:Tree Str} {s:Str},isTs f bs ss=true→bs[i]?=some b→ss[i]?=some s→isT f b s=true
  | [],_,_,_,_,_,h,_=>by simp at h
  | _ :: _,[],_,_,_,_,_,h=>by simp at h
  | b :: bs,s :: ss,0,b',s',h,h1,h2=>by
    simp only [isTs,Bool.and_eq_true] at h
    simp at h1 h2
    rw [← h1,← h2];exact h.1
  | b :: bs,s :: ss,i + 1,b',s',h,h1,h2=>by
    simp only [isTs,Bool.and_eq_true] at h
    exact isTs_at (i:=i) h.2 (by simpa using h1) (by simpa using h2)
theorem isT_open {f:Str→Str→Option (List Str)} {t:Tree Str} {k:Str} (h:isT f t k=true):∃ ss,f k (nmT t)=some ss∧ss.length=t.bs.length∧isTs f t.bs ss=true:=by
  cases t with
  | node n m bs =>
    simp only [isT] at h
    cases e:f k n with
    | none=>rw [e] at h;cases h
    | some ss =>
      rw [e] at h
      simp only [Bool.and_eq_true,decide_eq_true_eq] at h
      exact ⟨ss,e,h.1,h.2⟩
theorem zip_find {α β:Type} (p:α→Bool) (f:α→β→Bool):∀ {as:List α} {bs:List β} {a:α},as.length=bs.length→(List.zipWith f as bs).all id=true→as.find? p=some a→∃ b,(as.zip bs).find? (fun x=>p x.1)=some (a,b)∧f a b=true∧b ∈ bs
  | [],_,_,_,_,h=>by simp at h
  | x :: as,[],_,hl,_,_=>by simp at hl
  | x :: as,y :: bs,a,hl,ha,h=>by
    simp only [List.zipWith_cons_cons,List.all_cons,id,Bool.and_eq_true] at ha
    rw [List.find?_cons] at h
    rw [List.zip_cons_cons,List.find?_cons]
    cases hp:p x with
    | true =>
      rw [hp] at h
      obtain rfl:=Option.some.inj h
      exact ⟨y,by simp [hp],ha.1,List.mem_cons_self⟩
    | false =>
      rw [hp] at h
      obtain ⟨b,h1,h2,h3⟩:=zip_find p f (by simpa using hl) ha.2 h
      exact ⟨b,by simpa [hp] using h1,h2,List.mem_cons_of_mem _ h3⟩
theorem leaf_cls {t:Tm} {m b:Int} (h:lab t=.call m b):(m,b) ∈ cls t:=by
  cases t with
  | node l k bs =>
    have:l=.call m b:=h
    subst this
    simp [cls,lcl]
theorem fit1_open {mk ks:List Str} {m b:Int} (h:fit1 mk ks (m,b)=true):0≤m∧m < mk.length∧0≤b∧b < ks.length∧mk[m.toNat]?=ks[b.toNat]?:=by
  unfold fit1 at h
  simp only [Bool.and_eq_true,decide_eq_true_eq] at h
  obtain ⟨⟨⟨⟨h1,h2⟩,h3⟩,h4⟩,h5⟩:=h
  exact ⟨h1,h2,h3,h4,h5⟩
theorem fit_call {mk ks:List Str} {t:Tm} {m b:Int} (h:fitT mk ks t=true) (hl:lab t=.call m b):fit1 mk ks (m,b)=true:=by
  unfold fitT at h
  exact List.all_eq_true.mp h _ (leaf_cls hl)
theorem rule_fits {T:Tu} (ok:TuOk T) {md:Md} (hm:md ∈ T.ms) {name:Str} {ss:List Str} (hr:rowK T.ks md.1 name=some ss):∃ u,ruleK T.ks md name=some u∧fitT (mks T.ms) ss u=true∧u ∈ md.2:=by
  have h:=ok.rf md hm
  unfold rulesFit at h
  simp only [Bool.and_eq_true,decide_eq_true_eq] at h
  obtain ⟨⟨_,h2⟩,h3⟩:=h
  unfold rowK at hr
  cases er:(rowsK T.ks md.1).find? fun r=>decide (r.2.1=name) with
  | none=>rw [er] at hr;cases hr
  | some r =>
    rw [er] at hr
    have e:r.2.2.2=ss:=by simpa using hr
    obtain ⟨u,h4,h5,h6⟩:=zip_find (fun r:PNx=>decide (r.2.1=name)) (fun (r:PNx) t=>fitT (mks T.ms) r.2.2.2 t) h2.symm h3 er
    refine ⟨u,?_,by rw [← e];exact h5,h6⟩
    unfold ruleK
    rw [h4];rfl
theorem St.next {T:Tu} (ok:TuOk T) {p:Tm × Tree Str} (h:St T p) {m b:Int} (hl:lab p.1=.call m b) :
    ∃ c md u,0≤b∧0≤m∧p.2.bs[b.toNat]?=some c∧T.ms[m.toNat]?=some md∧ruleK T.ks md (nmT c)=some u∧u ∈ md.2∧nextR T.ks T.ms p.1 p.2=some (u,c)∧St T (u,c):=by
  obtain ⟨kinds,hf,hkl,hT⟩:=h
  obtain ⟨m0,m1,b0,b1,e⟩:=fit1_open (fit_call hf hl)
  have hbl:b.toNat < p.2.bs.length:=by omega
  have hml:m.toNat < T.ms.length:=by rw [List.length_map] at m1;omega
  have hkb:b.toNat < kinds.length:=by omega
  have hc:p.2.bs[b.toNat]?=some p.2.bs[b.toNat]:=List.getElem?_eq_getElem hbl
  have hm:T.ms[m.toNat]?=some T.ms[m.toNat]:=List.getElem?_eq_getElem hml
  have hk:kinds[b.toNat]?=some T.ms[m.toNat].1:=by rw [← e,List.getElem?_map,hm];rfl
  obtain ⟨ss,h1,h2,h3⟩:=isT_open (isTs_at hT hc hk)
  obtain ⟨u,h4,h5,h6⟩:=rule_fits ok (List.getElem_mem hml) h1
  refine ⟨_,_,u,b0,m0,hc,hm,h4,h6,?_,ss,h5,h2,h3⟩
  unfold nextR
  rw [hl]
  simp only [hc,hm,h4]
theorem come_ok {T:Tu} (ok:TuOk T):∀ (n:Nat) (p:Tm × Tree Str),lv p.2≤n→n≤60→St T p→St T (come T.ks T.ms p)∧isC (lab (come T.ks T.ms p).1)=false∧lv (come T.ks T.ms p).2≤lv p.2
  | 0,p,h,_,_=>by rw [lv_bs] at h;omega
  | n + 1,p,h,hn,hS=>by
    cases hl:lab p.1 with
    | put nm k a =>
      have hc:isC (lab p.1)=false:=by rw [hl];rfl
      rw [come_put hc]
      exact ⟨hS,hc,Nat.le_refl _⟩
    | call m b =>
      obtain ⟨c,md,u,_,_,hc,_,_,_,hn2,hS2⟩:=hS.next ok hl
      rw [come_next (by omega) hn2]
      have h1:=lv_le (List.mem_of_getElem? hc)
      have h0:=lv_bs p.2
      obtain ⟨a1,a2,a3⟩:=come_ok ok n (u,c) (by show lv c≤n;omega) (by omega) hS2
      have a3':lv (come T.ks T.ms (u,c)).2≤lv c:=a3
      exact ⟨a1,a2,by omega⟩
def stepAt (T:Tu) (p:Tm × Tree Str) (j:Int):Option (Tm × Tree Str):=if 0≤j then (p.1.bs[j.toNat]?).map fun u=>come T.ks T.ms (u,p.2) else none
def seenT (T:Tu):Tm × Tree Str→List Int→Option (Tm × Tree Str)
  | p,[]=>some p
  | p,j :: r=>match stepAt T p j with
    | none=>none
    | some q=>seenT T q r
theorem seenT_app (T:Tu):∀ (p:Tm × Tree Str) (l r:List Int),seenT T p (l ++ r)=(seenT T p l).bind fun q=>seenT T q r
  | p,[],r=>rfl
  | p,j :: l,r=>by
    simp only [List.cons_append,seenT]
    cases stepAt T p j with
    | none=>rfl
    | some q=>exact seenT_app T q l r
theorem St.part {T:Tu} {p:Tm × Tree Str} (h:St T p) {u:Tm} (hu:u ∈ p.1.bs):St T (u,p.2):=by
  obtain ⟨kinds,hf,h1,h2⟩:=h
  refine ⟨kinds,?_,h1,h2⟩
  unfold fitT at hf ⊢
  rw [List.all_eq_true] at hf ⊢
  intro c hc
  refine hf c ?_
  cases hp:p.1 with
  | node l k bs =>
    rw [hp] at hu
    simp only [cls]
    exact List.mem_append_right _ (cls_le hu c hc)
structure At (T:Tu) (p:Tm × Tree Str):Prop where
  st:St T p
  pt:isC (lab p.1)=false
  lv:TM.lv p.2≤60
theorem At.step {T:Tu} (ok:TuOk T) {p q:Tm × Tree Str} (h:At T p) {j:Int} (e:stepAt T p j=some q):At T q:=by
  unfold stepAt at e
  by_cases hj:0≤j
  · rw [if_pos hj] at e
    cases hu:p.1.bs[j.toNat]? with
    | none=>rw [hu] at e;cases e
    | some u =>
      rw [hu] at e
      obtain rfl:come T.ks T.ms (u,p.2)=q:=Option.some.inj e
      obtain ⟨a1,a2,a3⟩:=come_ok ok 60 (u,p.2) h.lv (Nat.le_refl _) (h.st.part (List.mem_of_getElem? hu))
      exact ⟨a1,a2,Nat.le_trans a3 h.lv⟩
  · rw [if_neg hj] at e;cases e
def lblM (p:Tm × Tree Str):Int:=match lab p.1 with
  | .call _ _=>0
  | .put _ k a=>if k=true then a + mkT p.2 else a
def lblN (p:Tm × Tree Str):Str:=match lab p.1 with
  | .call _ _=>S []
  | .put n _ _=>n
def upT (t:Tree Str):Tree Str:=.node (S []) 0 [t]
theorem St.start {T:Tu} (ok:TuOk T) {t:Tree Str} (h:isT (rowK T.ks) t T.k0=true):St T (T.start,upT t) :=
  ⟨[T.k0],ok.st,rfl,by simp [upT,Tree.bs,isTs,h]⟩
theorem St.mode {T:Tu} {t:Tree Str} {m:Int} {md:Md} (h0:0≤m) (hm:T.ms[m.toNat]?=some md) (h:isT (rowK T.ks) t md.1=true):St T (leaf m 0,upT t):=by
  refine ⟨[md.1],?_,rfl,by simp [upT,Tree.bs,isTs,h]⟩
  have hl:m.toNat < T.ms.length:=(List.getElem?_eq_some_iff.mp hm).1
  unfold fitT
  simp only [leaf,cls,lcl,clss,List.append_nil,List.all_cons,List.all_nil,Bool.and_true]
  unfold fit1
  simp only [List.length_map,List.getElem?_map,hm,Bool.and_eq_true,decide_eq_true_eq,Option.map_some,List.length_singleton]
  exact ⟨⟨⟨⟨h0,by omega⟩,by omega⟩,by omega⟩,rfl⟩
end K26
namespace L2
open PySem PySem.Spec PyProof.Rows PySem.W
section
variable {prog:Program} {w:World} {A:Around} {E:Value→Shared→Prop} {s:Shared}
end
section
variable {X:Cx}
end
end L2
namespace L2
open PySem PySem.Spec PyProof.Rows
section
variable {prog:Program} {w:World} {A:Around} {E:Value→Shared→Prop} {s:Shared}
theorem zipM_item {zp ti tu j1 j2 t1 t2:Addr} {n1 n2:Nat} {us vs:Array Value} {p q c d:Value} {Q:Value→Shared→Prop} (Ap:ZipApart zp ti tu j1 j2 t1 t2)
    (gz:IsZip s.heap zp ti tu .none) (gi:IsPair s.heap ti (.ref j1) (.ref j2)) (gu:IsPair s.heap tu c d)
    (w1:s.heap.IsTupleIter j1 t1 n1) (w2:s.heap.IsListIter j2 t2 n2) (l1:s.heap.IsTuple t1 us) (l2:s.heap.IsList t2 vs) (ep:us[n1]?=some p) (eq:vs[n2]?=some q)
    (k:∀ h',IsZip h' zp ti tu (rawInt s.heap.objs.size)→IsPair h' tu p q→h'.IsTupleIter j1 t1 (n1 + 1)→h'.IsListIter j2 t2 (n2 + 1)→IsPair h' s.heap.objs.size p q →
      (∀ b o,b≠zp→b≠tu→b≠j1→b≠j2→s.heap.get? b=some o→h'.get? b=some o)→Q (.ref s.heap.objs.size) { s with heap:=h' }) :
    wpAny (model prog w) A (Builtin.«zip.__next__» ⟨[.ref zp],[]⟩) (fun fin s'=>∃ v,fin=.done (.ret v)∧Q v s') E s:=by
  show wpAny _ _ (field (.ref zp) 2 >>= _) _ _ _
  refine wpAny_bind (wpAny_field gz rfl (x:=.bool false) rfl ?_)
  show wpAny _ _ (field (.ref zp) 3 >>= _) _ _ _
  refine wpAny_bind (wpAny_field gz rfl (x:=.ref ti) rfl ?_)
  refine wpAny_bind (wpAny_seqItems gi rfl ?_)
  show wpAny _ _ (Builtin.SmallTypes.ownedTupleIsFree (.ref zp) >>= _) _ _ _
  refine wpAny_bind ?_;(unfold Builtin.SmallTypes.ownedTupleIsFree);refine wpAny_bind (wpAny_field gz rfl (x:=.none) rfl (wpAny_pure ?_))
  simp only [if_true]
  refine wpAny_bind (wpAny_rule (wpAny_bind (wpAny_field gz rfl (x:=.ref tu) rfl ?_)))
  refine wpAny_bind (wpAny_setField_rec gz (by simp) fun ha gza sa=>?_)
  replace gza:IsZip ha zp ti tu .ellipsis:=gza
  refine wpAny_bind ?_
  simp only [List.forIn_cons,List.forIn_nil,List.zipIdx_cons,List.zipIdx_nil]
  refine wpAny_bind (wpAny_bind (wpAny_onRaise ?_))
  show wpAny _ _ (Builtin.SmallTypes.nextOf (.ref j1) >>= _) _ _ _
  refine wpAny_bind (tupNext_item (w1.extBut sa.extBut Ap.i1z) (l1.extBut sa.extBut Ap.l1z) ep fun hb w1b sb=>wpAny_pure ?_)
  have gub:IsPair hb tu c d:=sb.extBut _ _ Ap.TOi1 (sa.extBut _ _ Ap.TOz gu)
  refine wpAny_bind (wpAny_seqItems gub rfl (wpAny_bind (wpAny_updateSeq_pair gub fun hc guc sc=>?_)))
  replace guc:IsPair hc tu p d:=guc
  refine wpAny_bind (wpAny_letGo (wpAny_pure (wpAny_bind (wpAny_bind (wpAny_onRaise ?_)))))
  show wpAny _ _ (Builtin.SmallTypes.nextOf (.ref j2) >>= _) _ _ _
  refine wpAny_bind (wpAny_nextOf_list_item (((w2.extBut sa.extBut Ap.i2z).extBut sb.extBut Ap.i12.symm).extBut sc.extBut Ap.TOi2.symm) (((l2.extBut sa.extBut Ap.l2z).extBut sb.extBut Ap.l2i1).extBut sc.extBut Ap.l2TO) eq fun hd w2d sd=>wpAny_pure ?_)
  have gud:IsPair hd tu p d:=sd.extBut _ _ Ap.TOi2 guc
  refine wpAny_bind (wpAny_seqItems gud rfl (wpAny_bind (wpAny_updateSeq_pair gud fun he gue se=>?_)))
  replace gue:IsPair he tu p q:=gue
  refine wpAny_bind (wpAny_letGo (wpAny_pure (wpAny_pure (wpAny_bind (wpAny_seqItems gue rfl (wpAny_bind (wpAny_newTuple ?_)))))))
  have size5:he.objs.size=s.heap.objs.size:=by rw [se.1,sd.1,sc.1,sb.1,sa.1]
  have gze:IsZip he zp ti tu .ellipsis:=se.extBut _ _ Ap.TOz.symm (sd.extBut _ _ Ap.i2z.symm (sc.extBut _ _ Ap.TOz.symm (sb.extBut _ _ Ap.i1z.symm gza)))
  have kept5:∀ b o,b≠zp→b≠tu→b≠j1→b≠j2→s.heap.get? b=some o→he.get? b=some o:=fun b o b1 b2 b3 b4 e=>se.extBut _ _ b2 (sd.extBut _ _ b4 (sc.extBut _ _ b2 (sb.extBut _ _ b3 (sa.extBut _ _ b1 e))))
  have w1e:he.IsTupleIter j1 t1 (n1 + 1):=((w1b.extBut sc.extBut Ap.TOi1.symm).extBut sd.extBut Ap.i12).extBut se.extBut Ap.TOi1.symm
  have w2e:he.IsListIter j2 t2 (n2 + 1):=w2d.extBut se.extBut Ap.TOi2.symm
  have lz:zp < he.objs.size:=Heap.lt_size gze
  show wpAny _ _ (Builtin.SmallTypes.ownedTupleHandOut (.ref zp) (.ref he.objs.size) >>= _) _ _ _
  refine wpAny_bind ?_;(unfold Builtin.SmallTypes.ownedTupleHandOut)
  have gzf:IsZip (he.push { cls:=.type "tuple", data:=.seq #[p,q] }) zp ti tu .ellipsis:=Heap.get?_push_of_some _ gze
  refine wpAny_bind (wpAny_setField_rec gzf (by simp) fun hg gzg sg=>?_)
  replace gzg:IsZip hg zp ti tu (rawInt he.objs.size):=gzg
  refine wpAny_setField_rec gzg (by simp) fun hh gzh sh=>?_
  replace gzh:IsZip hh zp ti tu (rawInt he.objs.size):=gzh
  have upw:∀ b o,b≠zp→he.get? b=some o→hh.get? b=some o:=fun b o b1 e=>sh.extBut _ _ b1 (sg.extBut _ _ b1 (Heap.get?_push_of_some _ e))
  have gnew:IsPair hh he.objs.size p q:=sh.extBut _ _ (Nat.ne_of_gt lz) (sg.extBut _ _ (Nat.ne_of_gt lz) (Heap.get?_push_size _ rfl))
  rw [size5] at gzh gnew
  refine wpAny_pure ⟨_,rfl,?_⟩
  show Q (.ref he.objs.size) _
  rw [size5]
  exact k hh gzh (upw _ _ Ap.TOz gue) (w1e.at fun o e=>upw _ o Ap.i1z e) (w2e.at fun o e=>upw _ o Ap.i2z e) gnew fun b o b1 b2 b3 b4 e=>upw b o b1 (kept5 b o b1 b2 b3 b4 e)
theorem zipM_end {zp ti tu j1 j2 t1 t2:Addr} {n1 n2:Nat} {us vs:Array Value} {c d:Value} {Q:Fin→Shared→Prop} (hh:A.handled=none) (Ap:ZipApart zp ti tu j1 j2 t1 t2)
    (gz:IsZip s.heap zp ti tu .none) (gi:IsPair s.heap ti (.ref j1) (.ref j2)) (gu:IsPair s.heap tu c d)
    (w1:s.heap.IsTupleIter j1 t1 n1) (l1:s.heap.IsTuple t1 us) (ep:us[n1]?=none)
    (k:∀ h' e,(∀ b o,b≠zp→b≠tu→b≠j1→b≠j2→s.heap.get? b=some o→h'.get? b=some o)→(∃ o,h'.get? e=some o∧o.cls=.type "StopIteration")→E (.ref e) { s with heap:=h' }) :
    wpAny (model prog w) A (Builtin.«zip.__next__» ⟨[.ref zp],[]⟩) Q E s:=by
  show wpAny _ _ (field (.ref zp) 2 >>= _) _ _ _
  refine wpAny_bind (wpAny_field gz rfl (x:=.bool false) rfl ?_)
  show wpAny _ _ (field (.ref zp) 3 >>= _) _ _ _
  refine wpAny_bind (wpAny_field gz rfl (x:=.ref ti) rfl ?_)
  refine wpAny_bind (wpAny_seqItems gi rfl ?_)
  show wpAny _ _ (Builtin.SmallTypes.ownedTupleIsFree (.ref zp) >>= _) _ _ _
  refine wpAny_bind ?_;(unfold Builtin.SmallTypes.ownedTupleIsFree);refine wpAny_bind (wpAny_field gz rfl (x:=.none) rfl (wpAny_pure ?_))
  simp only [if_true]
  refine wpAny_bind (wpAny_rule (wpAny_bind (wpAny_field gz rfl (x:=.ref tu) rfl ?_)))
  refine wpAny_bind (wpAny_setField_rec gz (by simp) fun ha gza sa=>?_)
  replace gza:IsZip ha zp ti tu .ellipsis:=gza
  refine wpAny_bind ?_
  simp only [List.forIn_cons,List.forIn_nil,List.zipIdx_cons,List.zipIdx_nil]
  refine wpAny_bind (wpAny_bind (wpAny_onRaise ?_))
  show wpAny _ _ (Builtin.SmallTypes.nextOf (.ref j1) >>= _) _ _ _
  refine wpAny_bind (tupNext_end hh (w1.extBut sa.extBut Ap.i1z) (l1.extBut sa.extBut Ap.l1z) ep fun hb e sb ge=>?_)
  obtain ⟨oe,hoe,hce⟩:=ge
  have gzb:IsZip hb zp ti tu .ellipsis:=sb _ _ Ap.i1z.symm gza
  have nez:e≠zp:=fun x=>by subst x;rw [gzb] at hoe;cases hoe;simp at hce
  refine wpAny_setField_rec gzb (by simp) fun hc _ sc=>k hc e (fun b o b1 _ b3 _ x=>sc.extBut _ _ b1 (sb _ _ b3 (sa.extBut _ _ b1 x))) ⟨oe,sc.extBut _ _ nez hoe,hce⟩
theorem pyNext_zipM_item {zp ti tu j1 j2 t1 t2:Addr} {n1 n2:Nat} {us vs:Array Value} {p q c d:Value} {Q:Option Value→Shared→Prop} (Ap:ZipApart zp ti tu j1 j2 t1 t2)
    (gz:IsZip s.heap zp ti tu .none) (gi:IsPair s.heap ti (.ref j1) (.ref j2)) (gu:IsPair s.heap tu c d)
    (w1:s.heap.IsTupleIter j1 t1 n1) (w2:s.heap.IsListIter j2 t2 n2) (l1:s.heap.IsTuple t1 us) (l2:s.heap.IsList t2 vs) (ep:us[n1]?=some p) (eq:vs[n2]?=some q)
    (k:∀ h',IsZip h' zp ti tu (rawInt s.heap.objs.size)→IsPair h' tu p q→h'.IsTupleIter j1 t1 (n1 + 1)→h'.IsListIter j2 t2 (n2 + 1)→IsPair h' s.heap.objs.size p q →
      (∀ b o,b≠zp→b≠tu→b≠j1→b≠j2→s.heap.get? b=some o→h'.get? b=some o)→Q (some (.ref s.heap.objs.size)) { s with heap:=h' }) :
    wpAny (model prog w) A (pyNext (.ref zp)) Q E s:=by
  have tz:s.TypeIs (.ref zp) "zip" := ⟨_,gz,rfl⟩
  unfold pyNext
  exact wpAny_bind (wpAny_attempt (wpAny_callSpecial?_slot (name:=Str.ofString "__next__") tz F.slot_zip_next (wpAny_call_entry F.slot_zip_next tz F.entry_zip_next (zipM_item Ap gz gi gu w1 w2 l1 l2 ep eq fun h' a1 a2 a3 a4 a5 a6=>wpAny_pure (k h' a1 a2 a3 a4 a5 a6)) (F.args_zip_next_1 _))))
theorem pyNext_zipM_end {zp ti tu j1 j2 t1 t2:Addr} {n1 n2:Nat} {us:Array Value} {c d:Value} {Q:Option Value→Shared→Prop} (hh:A.handled=none) (Ap:ZipApart zp ti tu j1 j2 t1 t2)
    (gz:IsZip s.heap zp ti tu .none) (gi:IsPair s.heap ti (.ref j1) (.ref j2)) (gu:IsPair s.heap tu c d) (w1:s.heap.IsTupleIter j1 t1 n1) (l1:s.heap.IsTuple t1 us) (ep:us[n1]?=none)
    (k:∀ h',(∀ b o,b≠zp→b≠tu→b≠j1→b≠j2→s.heap.get? b=some o→h'.get? b=some o)→Q none { s with heap:=h' }):wpAny (model prog w) A (pyNext (.ref zp)) Q E s:=by
  have tz:s.TypeIs (.ref zp) "zip" := ⟨_,gz,rfl⟩
  unfold pyNext
  refine wpAny_bind (wpAny_attempt (wpAny_callSpecial?_slot (name:=Str.ofString "__next__") tz F.slot_zip_next (wpAny_call_entry F.slot_zip_next tz F.entry_zip_next (zipM_end hh (n2:=n2) (vs:=us) Ap gz gi gu w1 l1 ep fun h' e hk ge=>?_) (F.args_zip_next_1 _))))
  obtain ⟨o,ho,hc⟩:=ge
  exact wpAny_bind (wpAny_isInstance (T:="StopIteration") (b:=true) ⟨o,ho,hc⟩ isSubtype_stop (wpAny_pure (k _ hk)))
abbrev zM1 (h:Heap) (t1:Addr):Heap:=h.push { cls:=.type "tuple_iterator", data:=.fields #[.ref t1,.int 0 0] }
abbrev zM2 (h:Heap) (t1 t2:Addr):Heap:=(zM1 h t1).push { cls:=.type "list_iterator", data:=.fields #[.ref t2,.int 0 0] }
abbrev zM3 (h:Heap) (t1 t2:Addr):Heap:=(zM2 h t1 t2).push { cls:=.type "tuple", data:=.seq #[.ref h.objs.size,.ref (zM1 h t1).objs.size] }
abbrev zM4 (h:Heap) (t1 t2:Addr):Heap:=(zM3 h t1 t2).push { cls:=.type "tuple", data:=.seq #[.none,.none] }
abbrev zM5 (h:Heap) (t1 t2:Addr):Heap:=(zM4 h t1 t2).push { cls:=.type "zip", data:=.fields #[.none,.bool false,.bool false,.ref (zM2 h t1 t2).objs.size,.ref (zM3 h t1 t2).objs.size] }
theorem zipM_new (t1 t2:Addr) (us vs:Array Value) :
    Meets (Builtin.«zip.__new__» ⟨[.type "zip", .ref t1,.ref t2],[]⟩) (fun _ R s=>s.heap.IsTuple t1 us∧s.heap.IsList t2 vs ∧
      R (.ok (.ret (.ref (zM4 s.heap t1 t2).objs.size))) { s with heap:=zM5 s.heap t1 t2 }) :=
  .of_wp fun prog w A R s h=>by
    obtain ⟨hp,g,d,tk,os⟩:=s;obtain ⟨l1,l2,h⟩:=h
    have hsub:=sub_zip
    have L1:Heap.IsTuple (Shared.heap ⟨hp,g,d,tk,os⟩) t1 us:=l1
    have L2:Heap.IsList (Shared.heap ⟨hp.push { cls:=.type "tuple_iterator", data:=.fields #[.ref t1,.int 0 0] },g,d,tk,os⟩) t2 vs:=let ⟨o,e,r⟩:=l2;⟨o,Heap.get?_push_of_some _ e,r⟩
    wp_walk using wpAny_pyIter_tuple L1,wpAny_pyIter_list L2
    exact ⟨_,rfl,h⟩
theorem call_zipM {t1 t2:Addr} {us vs:Array Value} {Q:Value→Shared→Prop} (l1:s.heap.IsTuple t1 us) (l2:s.heap.IsList t2 vs)
    (h:∀ h',IsZip h' (s.heap.objs.size + 4) (s.heap.objs.size + 2) (s.heap.objs.size + 3) .none→IsPair h' (s.heap.objs.size + 2) (.ref s.heap.objs.size) (.ref (s.heap.objs.size + 1)) →
      IsPair h' (s.heap.objs.size + 3) .none .none→h'.IsTupleIter s.heap.objs.size t1 0→h'.IsListIter (s.heap.objs.size + 1) t2 0 →
      (∀ c o,s.heap.get? c=some o→h'.get? c=some o)→Q (.ref (s.heap.objs.size + 4)) { s with heap:=h' }) :
    wpAny (model prog w) A (call (.type "zip") [.ref t1,.ref t2]) Q E s:=by
  refine callType_new F.called_zip (by decide) (F.typeCall_zip_2 _ _) (F.newCall_zip_2 _ _) (fun obj=>F.args_object_init_3 obj _ _) F.entry_zip_new (zipM_new t1 t2 us vs) ⟨l1,l2,?_⟩
  have q1:(zM1 s.heap t1).objs.size=s.heap.objs.size + 1:=Heap.size_push ..
  have q2:(zM2 s.heap t1 t2).objs.size=s.heap.objs.size + 2:=by rw [Heap.size_push,q1]
  have q3:(zM3 s.heap t1 t2).objs.size=s.heap.objs.size + 3:=by rw [Heap.size_push,q2]
  have q4:(zM4 s.heap t1 t2).objs.size=s.heap.objs.size + 4:=by rw [Heap.size_push,q3]
  have r5:(zM5 s.heap t1 t2).get? (zM4 s.heap t1 t2).objs.size=some _:=Heap.get?_push_size _ rfl
  have r4:(zM5 s.heap t1 t2).get? (zM3 s.heap t1 t2).objs.size=some _:=Heap.get?_push_of_some _ (Heap.get?_push_size _ rfl)
  have r3:(zM5 s.heap t1 t2).get? (zM2 s.heap t1 t2).objs.size=some _:=Heap.get?_push_of_some _ (Heap.get?_push_of_some _ (Heap.get?_push_size _ rfl))
  have r2:(zM5 s.heap t1 t2).get? (zM1 s.heap t1).objs.size=some _:=Heap.get?_push_of_some _ (Heap.get?_push_of_some _ (Heap.get?_push_of_some _ (Heap.get?_push_size _ rfl)))
  have r1:(zM5 s.heap t1 t2).get? s.heap.objs.size=some _:=Heap.get?_push_of_some _ (Heap.get?_push_of_some _ (Heap.get?_push_of_some _ (Heap.get?_push_of_some _ (Heap.get?_push_size _ rfl))))
  show _∧_
  rw [q2,q3,q4] at r5
  rw [q1,q2] at r3
  rw [q3] at r4
  rw [q1] at r2
  rw [q4]
  exact ⟨⟨_,r5,rfl⟩,h _ r5 r3 r4 ⟨_,r1,rfl,rfl⟩ ⟨_,r2,rfl,rfl⟩ fun b o x=>Heap.get?_push_of_some _ (Heap.get?_push_of_some _ (Heap.get?_push_of_some _ (Heap.get?_push_of_some _ (Heap.get?_push_of_some _ x))))⟩
end
def ItzM (K:PySem.W.Frag) (a b:Addr) (xs ys:List V):It :=
  ⟨fun i H=>SqT K H a xs∧SqL K H b ys∧i < xs.length∧i < ys.length,
   fun i H x H'=>∃ p u v,H p=none∧x=.ref p∧H'=upd H p (.tup [u,v])∧xs[i]?=some u∧ys[i]?=some v,
   fun i H=>SqT K H a xs∧xs.length≤i⟩
theorem turn_zipM {P:Program} {w:World} {K:PySem.W.Frag} {elts:List Expr} {k1:Nat} {pos:Pos} (a b z:Addr) (xs ys:List V) (TI TO i1 i2:Addr) (Ap:ZipApart z TI TO i1 i2 a b) :
    Turn P w K (.Tuple elts k1 pos) (ItzM K a b xs ys) [z,TI,TO,i1,i2] z (fun i h=>IsZip h z TI TO .none∧IsPair h TI (.ref i1) (.ref i2)∧(∃ u v,IsPair h TO u v)∧h.IsTupleIter i1 a i∧h.IsListIter i2 b i) where
  mem:=by simp
  obj:=fun i h st c hc=>by
    obtain ⟨hz,hTI,⟨u,v,hTO⟩,h1,h2⟩:=st
    simp only [List.mem_cons,List.mem_nil_iff,or_false] at hc
    rcases hc with rfl | rfl | rfl | rfl | rfl
    · exact ⟨_,hz,fun v z=>by have z':Data.fields _=Data.cell v:=z;cases z'⟩
    · exact ⟨_,hTI,fun v z=>by have z':Data.seq _ _=Data.cell v:=z;cases z'⟩
    · exact ⟨_,hTO,fun v z=>by have z':Data.seq _ _=Data.cell v:=z;cases z'⟩
    · obtain ⟨o,e,c,d⟩:=h1;exact ⟨o,e,fun v z=>by rw [d] at z;cases z⟩
    · obtain ⟨o,e,c,d⟩:=h2;exact ⟨o,e,fun v z=>by rw [d] at z;cases z⟩
  keep:=fun i h h' st k=>by
    obtain ⟨hz,hTI,⟨u,v,hTO⟩,h1,h2⟩:=st
    exact ⟨k z (by simp) _ hz,k TI (by simp) _ hTI,⟨u,v,k TO (by simp) _ hTO⟩,h1.at fun o e=>k i1 (by simp) o e,h2.at fun o e=>k i2 (by simp) o e⟩
  item:=by
    intro X hP hw hK hc i pins s σ H E I hf st hg
    subst hP hw hK
    obtain ⟨hz,hTI,⟨u0,v0,hTO⟩,h1,h2⟩:=st
    obtain ⟨qa,qb,lx,ly⟩:=hg
    obtain ⟨its,rv,p,_⟩:=I.tuple qa
    obtain ⟨its2,rv2,p2,_⟩:=I.list qb
    have ex:xs[i]?=some xs[i]:=List.getElem?_eq_getElem lx
    have ey:ys[i]?=some ys[i]:=List.getElem?_eq_getElem ly
    obtain ⟨u,hu,ru⟩:=rv.get ex
    obtain ⟨v,hv,rv'⟩:=rv2.get ey
    refine pyNext_zipM_item Ap hz hTI hTO h1 h2 p p2.isList (p:=u) (q:=v) (by simpa using hu) (by simpa using hv) fun h' a1 a2 a3 a4 a5 hk=>?_
    refine ⟨.ref s.heap.objs.size,rfl,wpAny_letOwnedTupleGo_zip (s:={ s with heap:=h' }) a1 fun h'' hz' hs'=>?_⟩
    have lt:∀ {c o},s.heap.get? c=some o→c≠s.heap.objs.size:=fun e=>Nat.ne_of_lt (Heap.lt_size e)
    have e5:IsPair h'' s.heap.objs.size u v:=(hs'.2 _ (Ne.symm (lt hz))).trans a5
    have hch:∀ c ∈ [z,TO,i1,i2],FpOk X pins H c:=fun c hc=>hf c (by
      simp only [List.mem_cons,List.mem_nil_iff,or_false] at hc ⊢
      rcases hc with rfl | rfl | rfl | rfl <;> simp)
    have I2:Inv X pins σ (upd H s.heap.objs.size (.tup [xs[i],ys[i]])) { s with heap:=h'',toks:=s.toks }:=by
      refine I.turnedNew (ch:=[z,TO,i1,i2]) (fun c o hc e=>?_) hch (Nat.le_refl _) ⟨by show 2≤sizeLine;decide,[u,v],.cons ru (.cons rv' .nil),⟨_,e5,rfl,_,rfl⟩⟩
      simp only [List.mem_cons,List.mem_nil_iff,or_false,not_or] at hc
      exact (hs'.2 c hc.1).trans (hk c o hc.1 hc.2.1 hc.2.2.1 hc.2.2.2 e)
    have hfr:∀ c ∈ [z,TI,TO,i1,i2],upd H s.heap.objs.size (.tup [xs[i],ys[i]]) c=none:=fun c hc=>by
      have hc2:=hf c hc
      have:c≠s.heap.objs.size:=by
        simp only [List.mem_cons,List.mem_nil_iff,or_false] at hc
        rcases hc with rfl | rfl | rfl | rfl | rfl
        · exact lt hz
        · exact lt hTI
        · exact lt hTO
        · obtain ⟨o,e,_⟩:=h1;exact lt e
        · obtain ⟨o,e,_⟩:=h2;exact lt e
      rw [upd_ne this];exact hc2.1
    exact ⟨.ref s.heap.objs.size,_,I2,rfl,⟨s.heap.objs.size,_,_,I.fresh,rfl,rfl,ex,ey⟩,⟨hz',hs'.extBut _ _ Ap.TIz (hk _ _ Ap.TIz Ap.TITO Ap.TIi1 Ap.TIi2 hTI),⟨_,_,hs'.extBut _ _ Ap.TOz a2⟩,a3.extBut hs'.extBut Ap.i1z,a4.extBut hs'.extBut Ap.i2z⟩,hfr⟩
  done:=by
    intro X hP hw hK hc i pins s σ H E I hf st hg
    subst hP hw hK
    obtain ⟨hz,hTI,⟨u0,v0,hTO⟩,h1,h2⟩:=st
    obtain ⟨qa,hl⟩:=hg
    obtain ⟨its,rv,p,_⟩:=I.tuple qa
    have l1:=rv.length
    have hch:∀ c ∈ [z,TO,i1,i2],FpOk X pins H c:=fun c hc=>hf c (by
      simp only [List.mem_cons,List.mem_nil_iff,or_false] at hc ⊢
      rcases hc with rfl | rfl | rfl | rfl <;> simp)
    refine pyNext_zipM_end (n2:=0) (I.ok.hd hc) Ap hz hTI hTO h1 p (by simp;omega) fun h' hk=>⟨rfl,I.turnedL (t':=s.toks) (ch:=[z,TO,i1,i2]) (fun c o hc e=>?_) hch⟩
    simp only [List.mem_cons,List.mem_nil_iff,or_false,not_or] at hc
    exact hk c o hc.1 hc.2.1 hc.2.2.1 hc.2.2.2 e
  self:=fun _ _ _ _ _ st h=>wpAny_pyIter_zip st.1 h
section
variable {X:Cx} {elts:List Expr} {k1:Nat} {tpos:Pos}
def iZipM (K:PySem.W.Frag) (ta:TA):TI:=fun σ H R=>ta σ H fun vs H1=>∃ a b xs ys,vs=[.ref a,.ref b]∧SqT K H1 a xs∧SqL K H1 b ys∧R (ItzM K a b xs ys) H1
theorem pi_zipM {e1 e2:Expr} {ta:TA} {p pos:Pos} (hg:Gl X "zip") (hm:X.mg "zip" = none) (ha:PA X [e1,e2] ta) (hs:starEach [e1,e2] X.env=[(false,eval e1 X.env),(false,eval e2 X.env)]:=by rfl) (hs2:starEach [e2] X.env=[(false,eval e2 X.env)]:=by rfl) :
    PI X (.Tuple elts k1 tpos) (.Call (.Name "zip" p) [e1,e2] [] pos) (iZipM X.K ta):=by
  intro pins s σ H R I h
  refine Call_ (ld_blt I hg hm PyProof.Rows.boot_zip (PyProof.Rows.callWith_type1 (thn (ha pos pins s σ H _ I h) fun us s1 ⟨vs,H1,I1,r1,q1⟩=>?_) (by rw [hs,hs2]) (by rw [hs2];rfl)))
  obtain ⟨a,b,xs,ys,e,qa,qb,q⟩:=q1
  subst e
  obtain ⟨u1,u2,e3,r3,r4⟩:=r1.two
  subst e3
  cases (show u1=Value.ref a from r3)
  cases (show u2=Value.ref b from r4)
  obtain ⟨its,rv,pl,_⟩:=I1.tuple qa
  obtain ⟨its2,rv2,pl2,_⟩:=I1.list qb
  have la:@LT.lt Nat _ a s1.heap.objs.size:=by obtain ⟨o,e,_⟩:=pl;exact Heap.lt_size e
  have lb:@LT.lt Nat _ b s1.heap.objs.size:=by obtain ⟨o,_,e,_⟩:=pl2;exact Heap.lt_size e
  refine call_zipM pl pl2.isList fun h' hz hTI hTO h1 h2 hk=>?_
  refine wpAny_pyIter_zip hz ?_
  have I2:Inv X pins σ H1 { s1 with heap:=h' }:=I1.kept (t':=s1.toks) hk
  refine ⟨s1.heap.objs.size + 4,[s1.heap.objs.size + 4,s1.heap.objs.size + 2,s1.heap.objs.size + 3,s1.heap.objs.size,s1.heap.objs.size + 1],_,_,H1,rfl,I2,
    turn_zipM a b (s1.heap.objs.size + 4) xs ys (s1.heap.objs.size + 2) (s1.heap.objs.size + 3) s1.heap.objs.size (s1.heap.objs.size + 1) ?_,⟨hz,hTI,⟨_,_,hTO⟩,h1,h2⟩,fun c hc=>?_,q⟩
  · constructor <;> (refine nne ?_;omega)
  · have hle:@LE.le Nat _ s1.heap.objs.size c:=by
      simp only [List.mem_cons,List.mem_nil_iff,or_false] at hc
      rcases hc with rfl | rfl | rfl | rfl | rfl <;> omega
    exact I1.fpOk hle (I1.hok.fresh hle)
end
theorem for_zipM {K:PySem.W.Frag} {a b:Addr} {xs ys:List V} {g:TG} {tb:TS} {D:Ends} {σ:St} {H:Hp} (hlen:xs.length=ys.length) (Pv:Nat→St→Hp→Prop) (h0:Pv 0 σ H) (hl:∀ i σ H,i≤xs.length→Pv i σ H→SqT K H a xs∧SqL K H b ys)
    (hs:∀ i u v p σ H,xs[i]?=some u→ys[i]?=some v→H p=none→Pv i σ H→g (.ref p) σ (upd H p (.tup [u,v])) fun σ2 H2=>tb { D with nx:=Pv (i + 1),ct:=Pv (i + 1),bk:=D.nx } σ2 H2) (hd:∀ σ H,Pv xs.length σ H→D.nx σ H) :
    ∃ W:Nat→Nat→St→Hp→Prop,(∃ m,W 0 m σ H)∧∀ i m σ H,W i m σ H →
      ((ItzM K a b xs ys).stop i H∧D.nx σ H)∨((ItzM K a b xs ys).go i H∧∃ N:St→Hp→Prop,(∀ σ' H',N σ' H'→∃ m',m' < m∧W (i + 1) m' σ' H')∧∀ x H',(ItzM K a b xs ys).yld i H x H'→g x σ H' fun σ2 H2=>tb { D with nx:=N,ct:=N,bk:=D.nx } σ2 H2):=by
  refine ⟨fun i m σ H=>m=xs.length - i∧i≤xs.length∧Pv i σ H,⟨xs.length - 0,rfl,Nat.zero_le _,h0⟩,?_⟩
  rintro i m σ H ⟨rfl,hi,p⟩
  obtain ⟨qa,qb⟩:=hl i σ H hi p
  by_cases h:i < xs.length
  · refine .inr ⟨⟨qa,qb,h,by omega⟩,Pv (i + 1),fun σ' H' p'=>⟨xs.length - (i + 1),by omega,rfl,h,p'⟩,?_⟩
    rintro x H' ⟨p',u,v,hp,rfl,rfl,hu,hv⟩
    exact hs i u v p' σ H hu hv hp p
  · have e:i=xs.length:=by omega
    subst e
    exact .inl ⟨⟨qa,Nat.le_refl _⟩,hd σ H p⟩
end L2
namespace K26
open PySem L2 TM TT K9 K11
def top (i:Nat):Stmt:=PySem.Challenge.pw_turnery_k26_outcomes_too_great.main.body.getD i (.Pass ⟨0,0,0,0⟩)
abbrev sIsC:Stmt:=top 1
abbrev sCO:Stmt:=top 2
abbrev sMP:Stmt:=top 3
abbrev sPH:Stmt:=top 4
abbrev sHN:Stmt:=top 10
abbrev sRowsOf:Stmt:=top 12
abbrev sRowOf:Stmt:=top 13
abbrev sIsOf:Stmt:=top 14
abbrev sNeedOf:Stmt:=top 15
abbrev sNeedIn:Stmt:=top 16
abbrev sRule:Stmt:=top 18
abbrev sOut:Stmt:=top 20
abbrev sAbove:Stmt:=top 21
abbrev sReck:Stmt:=top 22
abbrev sCalB:Stmt:=top 23
abbrev sFill:Stmt:=top 24
abbrev sMany:Stmt:=top 26
abbrev sTall:Stmt:=top 27
abbrev sManyBy:Stmt:=top 28
abbrev sTallBy:Stmt:=top 29
abbrev sSeen:Stmt:=top 30
abbrev sSeenBy:Stmt:=top 31
abbrev sFirst:Stmt:=top 32
abbrev sTurned:Stmt:=top 36
abbrev sTurnedIn:Stmt:=top 37
abbrev sTurnedBy:Stmt:=top 38
abbrev sCell:Stmt:=top 40
abbrev sMixed:Stmt:=top 41
abbrev sNames:Stmt:=top 42
abbrev sGreat:Stmt:=top 43
abbrev sWhole:Stmt:=top 44
abbrev sWide:Stmt:=top 45
abbrev sDeep:Stmt:=top 46
abbrev sKept:Stmt:=top 47
abbrev sPutF:Stmt:=top 48
abbrev sWalk:Stmt:=top 49
abbrev sAnswer:Stmt:=top 50
abbrev sRulesF:Stmt:=top 51
abbrev sLaw:Stmt:=top 52
structure Gm (mg:Str→Option Value):Prop where
  len:mg "len" = none
  isi:mg "isinstance" = none
  int:mg "int" = none
  boo:mg "bool" = none
  str:mg "str" = none
  tup:mg "tuple" = none
  lst:mg "list" = none
  rng:mg "range" = none
  zip:mg "zip" = none
  dct:mg "dict" = none
  all:mg "all" = none
  srt:mg "sorted" = none
  rev:mg "reversed" = none
  sum:mg "sum" = none
  max:mg "max" = none
theorem tm_open {K:PySem.W.Frag} {H:Hp} {v:V} {t:Tm} (h:TmV K H v t):(∃ a m b,v=.ref a∧t=leaf m b∧SqT K H a [.str CALL,.int m,.int b]) ∨
    ∃ a b vs n k ad,v=.ref a∧t=.node (.put n k ad) 0 t.bs∧SqT K H a [.str PUT,.str n,.bl k,.int ad,.ref b]∧SqT K H b vs∧TmAll K H vs t.bs∧vs.length≤1000:=by
  cases h with
  | call h=>exact .inl ⟨_,_,_,rfl,rfl,h⟩
  | put h1 h2 h3 h4=>exact .inr ⟨_,_,_,_,_,_,rfl,rfl,h1,h2,h3,h4⟩
theorem find_at {α:Type} {p:α→Bool}:∀ {l:List α} {i:Nat} {x:α},l[i]?=some x→p x=true→(∀ (j:Nat) y,j < i→l[j]?=some y→p y=false)→l.find? p=some x
  | [],i,x,h,_,_=>by simp at h
  | a :: r,0,x,h,hp,_=>by
    have:a=x:=by simpa using h
    subst this
    rw [List.find?_cons,hp]
  | a :: r,i + 1,x,h,hp,hn=>by
    have h0:=hn 0 a (by omega) rfl
    rw [List.find?_cons,h0]
    exact find_at (i:=i) (by simpa using h) hp fun j y hj e=>hn (j + 1) y (by omega) (by simpa using e)
theorem find_no {α:Type} {p:α→Bool} {l:List α} (h:∀ (j:Nat) y,l[j]?=some y→p y=false):l.find? p=none:=by
  rw [List.find?_eq_none]
  intro x hx
  obtain ⟨j,hj,e⟩:=List.getElem_of_mem hx
  have:=h j x (by rw [List.getElem?_eq_getElem hj,e])
  simp [this]
def spIsC (K:PySem.W.Frag):Sp:=fun vs H Q _=>∃ (v:V) (t:Tm),vs=[v]∧TmV K H v t∧Q (.bl (isC (lab t))) H
def spRowsOf (K:PySem.W.Frag):Sp:=fun vs H Q _=>∃ (w:Addr) (kind:Str) (ks:List KdT),vs=[.ref w,.str kind]∧WoodAt K H w ks∧WoodOk ks∧∀ (lr:Addr) (H':Hp),Same H H'→RowsL K H' lr (rowsK ks kind)→Q (.ref lr) H'
def spRowOf (K:PySem.W.Frag):Sp:=fun vs H Q _=>∃ (w:Addr) (kind name:Str) (ks:List KdT),vs=[.ref w,.str kind,.str name]∧WoodAt K H w ks∧WoodOk ks∧∀ (v:V) (H':Hp),Same H H'→RowV K H' v (rowK ks kind name)→Q v H'
def spIsOf (K:PySem.W.Frag) (n:Nat):Sp:=fun vs H Q _=>∃ (w:Addr) (kind:Str) (v:V) (t:Tree Str) (ks:List KdT),vs=[.ref w,.str kind,v]∧WoodAt K H w ks∧WoodOk ks∧TrV K H v t∧lv t≤n∧∀ H':Hp,Same H H'→Q (.bl (isT (rowK ks) t kind)) H'
def spRule (K:PySem.W.Frag):Sp:=fun vs H Q _=>∃ (p w lm:Addr) (v:V) (i:Nat) (name:Str) (ks:List KdT) (ms:List MdT) (m:MdT),vs=[.ref p,.int (i:Int),.str name]∧SqT K H p [.ref w,v,.ref lm]∧WoodAt K H w ks∧WoodOk ks∧ModesL K H lm ms∧ms[i]?=some m∧m.2.2.2.2.length=(rowsK ks m.2.1).length∧∀ v' H',Same H H'→TmO K H' v' (ruleK ks m.md name)→Q v' H'
def spCell (K:PySem.W.Frag):Sp:=fun vs H Q _=>∃ (a:Addr) (ns:List Int) (k:Int),vs=[.ref a,.int k]∧0≤k∧SqL K H a (ns.map V.int)∧∀ c:Int,Q (.int c) H
def spWhole:Sp:=fun vs H Q _=>∃ i:Int,vs=[.int i]∧Q (.bl true) H
def spPH (K:PySem.W.Frag):Sp:=fun vs H Q _=>∃ (v:V) (n:Str) (k:Bool) (ad m:Int) (ts:List Tm),vs=[v,.int m]∧TmV K H v (.node (.put n k ad) 0 ts)∧∀ (p:Addr) (H':Hp),Same H H'→H' p=some (.tup [.str n,.int (if k=true then ad + m else ad),.int ((ts.length:Nat):Int)])→Q (.ref p) H'
def spMP (K:PySem.W.Frag):Sp:=fun vs H Q _=>∃ (v:V) (n:Str) (k:Bool) (ad m:Int) (ts:List Tm),vs=[v,.int m]∧TmV K H v (.node (.put n k ad) 0 ts)∧Q (.int (if k=true then ad + m else ad)) H
def spHN (K:PySem.W.Frag):Sp:=fun vs H Q _=>∃ (b:Addr) (xs:List V) (i:Int),vs=[.ref b,.int i]∧SqT K H b xs∧Q (.bl (decide (0≤i∧i < (xs.length:Int)))) H
def spNeedOf (K:PySem.W.Frag):Sp:=fun vs H Q _=>∃ (w:Addr) (kind:Str) (v:V) (t:Tree Str) (ks:List KdT),vs=[.ref w,.str kind,v]∧WoodAt K H w ks∧WoodOk ks∧TrV K H v t∧lv t≤40∧isT (rowK ks) t kind=true∧∀ H':Hp,Same H H'→Q .non H'
def spNeedIn (K:PySem.W.Frag):Sp:=fun vs H Q _=>∃ (w:Addr) (v:V) (t:Tree Str) (ks:List KdT) (k0:KdT),vs=[.ref w,v]∧WoodAt K H w ks∧WoodOk ks∧ks[0]?=some k0∧TrV K H v t∧lv t≤40∧isT (rowK ks) t k0.2.1=true∧∀ H':Hp,Same H H'→Q .non H'
def spAbove (K:PySem.W.Frag):Sp:=fun vs H Q _=>∃ (v:V) (t:Tree Str),vs=[v]∧TrV K H v t∧∀ (v':V) (H':Hp),Same H H'→TrV K H' v' (upT t)→Q v' H'
section
variable {P:Program} {w:World} {K:PySem.W.Frag} {mg:Str→Option Value} {base:Heap} {f:Addr} {fd:FuncData}
theorem scIsC:FnScope ["term"] ["term"] (defScope sIsC):=⟨rfl,rfl,rfl,by decide +kernel,rfl,by decide +kernel,by decide +kernel⟩
theorem ok_isC (F:Fun K "is_call" "is_call" sIsC f fd):FnOk P w K mg base CX0 1 f fd ["term"] (spIsC K):=by
  refine F.ok scIsC (fun vs H Q E h=>?_) (fun cdv A outer s H vs Q E hr h=>?_)
  · obtain ⟨v,t,rfl,_⟩:=h
    rfl
  obtain ⟨v,t,rfl,ht,q⟩:=h
  refine ⟨_,(pss_one (ps_ret (pe_cmpR op_eq (pe_ix ix_tup (pv 0) pe_int (fun _ _=>rfl)) pe_str (nomark _)))),?_⟩
  rcases tm_open ht with ⟨a,m,b,rfl,rfl,h1⟩ | ⟨a,b,bs,n,k,ad,rfl,et,h1,h2,h3,h4⟩
  · refine ⟨_,rfl,a,_,0,_,rfl,rfl,h1,rfl,rfl,?_⟩
    have e:decide (V.str CALL=V.str CALL)=true:=decide_eq_true rfl
    show Q (.bl (decide (V.str CALL=V.str CALL))) H
    rw [e];exact q
  · refine ⟨_,rfl,a,_,0,_,rfl,rfl,h1,rfl,rfl,?_⟩
    have e:decide (V.str PUT=V.str CALL)=false:=by decide +kernel
    show Q (.bl (decide (V.str PUT=V.str CALL))) H
    rw [et] at q
    rw [e];exact q
theorem scRowsOf:FnScope ["wood", "kind"] ["wood", "kind"] (defScope sRowsOf):=⟨rfl,rfl,rfl,by decide +kernel,rfl,by decide +kernel,by decide +kernel⟩
theorem ok_rowsOf (F:Fun K "rows_of" "rows_of" sRowsOf f fd) (G:Gm mg):FnOk P w K mg base CX0 1 f fd ["wood", "kind"] (spRowsOf K):=by
  refine F.ok scRowsOf (fun vs H Q E h=>?_) (fun cdv A outer s H vs Q E hr h=>?_)
  · obtain ⟨w,kind,ks,rfl,_⟩:=h
    rfl
  obtain ⟨wd,kind,ks,rfl,hW,hO,q⟩:=h
  refine ⟨_,(pss_one (ps_ret (pe_dget2 (hu_of hr) (pe_callTy (call_dictP rfl) rfl G.dct PyProof.Rows.boot_dict (pa_cons (pv 0) pa_nil)) (pv 1) (pe_lst pa_nil) ⟨rfl,rfl,rfl,rfl⟩))),?_⟩
  have hlen:=hO.len
  refine ⟨_,rfl,wd,ks.map (fun k=>(k.1,k.2.1,V.ref k.2.2.1)),rfl,(by rw [List.map_map];exact hW.1),fun t ht=>?_,(by rw [List.map_map];exact hO.nd),(by rw [List.length_map];omega),fun d hd=>⟨d,rfl,.inl ⟨_,.inl upd_same⟩,_,rfl,(by show 0≤sizeLine;decide),fun p hp=>⟨_,DGet.k (k:=Sum.inr kind) ((same_new hp _) _ _ upd_same),?_⟩⟩⟩
  · obtain ⟨k,hk,rfl⟩:=List.mem_map.mp ht
    exact (hW.2 k hk).1
  · have g1:=same_new hd (.dK ((ks.map (fun k=>(k.1,k.2.1,V.ref k.2.2.1))).map fun t=>((Sum.inr t.2.1:Key),t.2.2)))
    have g2:=same_new hp (.lst [])
    have g12:=g1.trans g2
    have ev:valV ((ks.map (fun k=>(k.1,k.2.1,V.ref k.2.2.1))).map fun t=>((Sum.inr t.2.1:Key),t.2.2)) (Sum.inr kind)=(ks.find? fun k=>decide (k.2.1=kind)).map fun k=>V.ref k.2.2.1:=by
      rw [List.map_map]
      exact val_map (fun k:KdT=>k.2.1) (fun k=>V.ref k.2.2.1) kind ks
    rw [ev]
    unfold rowsK at q
    cases e:ks.find? fun k=>decide (k.2.1=kind) with
    | none =>
      rw [e] at q
      exact q p _ g12 ⟨SqL.of upd_same,fun t ht=>(nomatch ht)⟩
    | some k =>
      rw [e] at q
      exact q k.2.2.1 _ g12 ((hW.2 k (List.mem_of_find?_eq_some e)).2.same g12)
theorem scRowOf:FnScope ["wood", "kind", "name"] ["wood", "kind", "name"] (defScope sRowOf):=⟨rfl,rfl,rfl,by decide +kernel,rfl,by decide +kernel,by decide +kernel⟩
theorem ok_rowOf (F:Fun K "row_of" "row_of" sRowOf f fd) (G:Gm mg) (RO:Fn P w K mg base 1 "rows_of" ["wood", "kind"] (spRowsOf K)):FnOk P w K mg base CX0 2 f fd ["wood", "kind", "name"] (spRowOf K):=by
  refine F.ok scRowOf (fun vs H Q E h=>?_) (fun cdv A outer s H vs Q E hr h=>?_)
  · obtain ⟨w,kind,name,ks,rfl,_⟩:=h
    rfl
  obtain ⟨wd,kind,name,ks,rfl,hW,hO,q⟩:=h
  refine ⟨_,(pss_one (ps_ret (pe_dget1 (hu_of hr) (pe_callTy (call_dictP rfl) rfl G.dct PyProof.Rows.boot_dict (pa_cons (pe_fn RO hr (pa_cons (pv 0) (pa_cons (pv 1) pa_nil))) pa_nil)) (pv 2) ⟨rfl,rfl,rfl,rfl⟩))),?_⟩
  refine ⟨_,rfl,_,rfl,wd,kind,ks,rfl,hW,hO,fun lr H1 g1 hR=>?_⟩
  have hRo:=rowsK_ok hO kind
  have hlen:=hRo.len
  refine ⟨lr,(rowsK ks kind).map (fun r=>(r.1,r.2.1,V.ref r.2.2.1)),rfl,(by rw [List.map_map];exact hR.1),fun t ht=>?_,(by rw [List.map_map];exact hRo.nd),(by rw [List.length_map];omega),fun d hd=>⟨d,rfl,.inl ⟨_,.inl upd_same⟩,_,rfl,_,DGet.k (k:=Sum.inr name) upd_same,?_⟩⟩
  · obtain ⟨k,hk,rfl⟩:=List.mem_map.mp ht
    exact (hR.2 k hk).1
  · have g2:=same_new hd (.dK (((rowsK ks kind).map (fun r=>(r.1,r.2.1,V.ref r.2.2.1))).map fun t=>((Sum.inr t.2.1:Key),t.2.2)))
    have ev:valV (((rowsK ks kind).map (fun r=>(r.1,r.2.1,V.ref r.2.2.1))).map fun t=>((Sum.inr t.2.1:Key),t.2.2)) (Sum.inr name)=((rowsK ks kind).find? fun r=>decide (r.2.1=name)).map fun r=>V.ref r.2.2.1:=by
      rw [List.map_map]
      exact val_map (fun r:PNx=>r.2.1) (fun r=>V.ref r.2.2.1) name (rowsK ks kind)
    rw [ev]
    unfold rowK at q
    cases e:(rowsK ks kind).find? fun r=>decide (r.2.1=name) with
    | none =>
      rw [e] at q
      exact q .non _ (g1.trans g2) rfl
    | some r =>
      rw [e] at q
      exact q (.ref r.2.2.1) _ (g1.trans g2) ⟨_,rfl,g2.seqT (hR.2 r (List.mem_of_find?_eq_some e)).2⟩
theorem scIsOf:FnScope ["wood", "kind", "tree", "branches", "kinds"] ["wood", "kind", "tree"] (defScope sIsOf):=⟨rfl,rfl,rfl,by decide +kernel,rfl,by decide +kernel,by decide +kernel⟩
theorem ok_isOf {n:Nat} (F:Fun K "is_of" "is_of" sIsOf f fd) (G:Gm mg) (RR:Fn P w K mg base 2 "row_of" ["wood", "kind", "name"] (spRowOf K)) (R:Fn P w K mg base (n + 2) "is_of" ["wood", "kind", "tree"] (spIsOf K n)):FnOk P w K mg base CX0 (n + 3) f fd ["wood", "kind", "tree"] (spIsOf K (n + 1)):=by
  refine F.ok scIsOf (fun vs H Q E h=>?_) (fun cdv A outer s H vs Q E hr h=>?_)
  · obtain ⟨w,kind,v,t,ks,rfl,_⟩:=h
    rfl
  obtain ⟨wd,kind,v,t,ks,rfl,hW,hO,ht,hlv,q⟩:=h
  refine ⟨_,(pss_cons (ps_set (i:=3) scIsOf.nd rfl (Or.inl rfl) (pe_ix ix_tup (pv 2) pe_int (fun _ _=>rfl)))
    (pss_cons (ps_set (i:=4) scIsOf.nd rfl (Or.inl rfl) (pe_fn RR hr (pa_cons (pv 0) (pa_cons (pv 1) (pa_cons (pe_ix ix_tup (pv 2) pe_int (fun _ _=>rfl)) pa_nil))) (Nat.le_add_left 2 n)))
    (pss_cons (ps_if (PW.pt (pw_or (pt_cmp (pc_isN (pv 4))) (pw_or1 (pt_cmpR op_ne (pe_callB call_len_seq rfl G.len PySem.boot_len (pa_cons (pv 4) pa_nil)) (pe_callB call_len_seq rfl G.len PySem.boot_len (pa_cons (pv 3) pa_nil)) (nomark _))))) (pss_one (ps_ret pe_bl)) pss_nil)
    (pss_one (ps_ret (pe_callB (call_allB rfl) rfl G.all PyProof.Rows.boot_all (pa_cons (pe_lcompG (CompG.many (xs:=["wanted", "branch"]) (caps:=["wood"]) (cap:=[0]) (cs:=[_]) rfl rfl (by decide +kernel) (by decide +kernel) (by decide +kernel) (by decide +kernel) (by decide +kernel) (by decide +kernel) rfl rfl rfl) rfl (pi_zipT rfl G.zip (pa_cons (pv 4) (pa_cons (pv 3) pa_nil))) (pg_c2 (CompG.many (xs:=["wanted", "branch"]) (caps:=["wood"]) (cap:=[0]) (cs:=[_]) rfl rfl (by decide +kernel) (by decide +kernel) (by decide +kernel) (by decide +kernel) (by decide +kernel) (by decide +kernel) rfl rfl rfl) rfl) (fun _ _ _ _=>pf_nil) (fun _ _ _ _=>pe_fn R hr (pa_cons (pv 2) (pa_cons (pv 0) (pa_cons (pv 1) pa_nil))) (Nat.le_refl _))) pa_nil))))))),?_⟩
  obtain ⟨a,b,bs,name,mark,rfl,et,h1,h2,h3,hbl⟩:=tr_open ht
  have hlen:=h3.length
  rw [isT_bs _ et] at q
  rw [lv_bs] at hlv
  refine ⟨_,rfl,a,_,2,_,rfl,rfl,h1,rfl,?_⟩
  refine ⟨_,rfl,_,rfl,_,rfl,a,_,0,_,rfl,rfl,h1,rfl,wd,kind,name,ks,rfl,hW,hO,fun rv H1 g1 hrv=>?_⟩
  cases e:rowK ks kind name with
  | none =>
    rw [e] at hrv q
    cases (show rv=.non from hrv)
    exact ⟨_,rfl,_,rfl,iteP rfl (q H1 g1)⟩
  | some ss =>
    rw [e] at hrv q
    obtain ⟨br,rfl,hbr⟩:=hrv
    refine ⟨_,rfl,_,rfl,iteN (fun z=>nomatch z) ⟨_,rfl,br,_,rfl,.inr hbr,_,rfl,b,_,rfl,.inr (g1.seqT h2),rfl,_,rfl,?_⟩⟩
    by_cases hl:ss.length=t.bs.length
    · refine iteNS (by rw [List.length_map,hl,hlen]) ?_
      refine ⟨_,rfl,_,rfl,br,b,_,bs,rfl,hbr,g1.seqT h2,fun acc hacc=>?_⟩
      have hzl:(ss.map V.str).length=bs.length:=by rw [List.length_map,hl,hlen]
      refine c2_zipT (K:=K) (xs:=ss.map V.str) (zs:=bs) (cs:=[some (.ref wd)]) (tt:=fun _ H Q=>Q true H) (te:=tCall (spIsOf K n) [] E0 (tCons (tVar 2) (tCons (tVar 0) (tCons (tVar 1) tNil)))) hzl (fun i ys H'=>H' acc=some (.lst ys)∧Same H1 H'∧ys=((List.zipWith (fun s b=>isT (rowK ks) b s) ss t.bs).take i).map V.bl)
        ⟨upd_same,same_new hacc _,rfl⟩ ?_ ?_ ?_
      · rintro i ys H' _ ⟨_,g,_⟩
        exact ⟨g.seqT hbr,(g1.trans g).seqT h2⟩
      · rintro i u v p ys H' hi hu hv hp ⟨hya,g,rfl⟩
        have his:i < ss.length:=by simpa using hi
        have hib:i < t.bs.length:=by omega
        have hib':i < bs.length:=by omega
        obtain ⟨cv,hcv,hct⟩:=h3.get (List.getElem?_eq_getElem hib)
        obtain rfl:cv=v:=Option.some.inj (hcv.symm.trans hv)
        obtain rfl:u=.str ss[i]:=by
          rw [List.getElem?_map,List.getElem?_eq_getElem his] at hu
          exact (Option.some.inj hu).symm
        have gp:=same_new hp (.tup [.str ss[i],cv])
        have gg:=g1.trans (g.trans gp)
        have a1:=lv_le (List.getElem_mem hib)
        refine iteT ⟨_,rfl,_,rfl,_,rfl,wd,ss[i],cv,t.bs[i],ks,rfl,hW.same gg,hO,hct.mono fun _ _=>gg.seqT,by omega,fun H4 g4=>?_⟩
        refine comp_next hi (g4 _ _ (gp _ _ hya)) (by rw [List.length_map,List.length_take,List.length_zipWith];omega) ⟨upd_same,fun x u e=>?_,?_⟩
        · rw [upd_ne (ne_of_none e hacc)];exact g4 _ _ (gp _ _ (g _ _ e))
        · rw [List.take_add_one,List.getElem?_zipWith,List.getElem?_eq_getElem his,List.getElem?_eq_getElem hib,List.map_append]
          rfl
      rintro ys H2 ⟨hya,g2,rfl⟩
      rw [List.take_of_length_le (by rw [List.length_zipWith,List.length_map];omega)] at hya
      refine ⟨acc,_,rfl,SqL.of hya,?_⟩
      have q':=q H2 (g1.trans g2)
      simp only [hl,decide_true,Bool.true_and,isTs_all _ _ _ hl] at q'
      exact q'
    · have e2:(!decide (V.int (((ss.map V.str).length:Nat):Int)=V.int ((bs.length:Nat):Int)))=true:=by
        rw [List.length_map,decide_eq_false]
        · rfl
        · intro z
          injection z with z
          omega
      rw [e2]
      refine iteT ?_
      have q':=q H1 g1
      simp only [hl,decide_false,Bool.false_and] at q'
      exact q'
theorem none_isOf {k:Nat}:FnOk P w K mg base CX0 k f fd ["wood", "kind", "tree"] (spIsOf K 0):=by
  have no:∀ vs H Q E,¬ spIsOf K 0 vs H Q E:=fun vs H Q E h=>by
    obtain ⟨w,kind,v,t,ks,_,_,_,_,h0,_⟩:=h
    rw [lv_bs] at h0;omega
  exact ⟨fun vs H Q E h=>absurd h (no vs H Q E),fun A outer s H args us vs Q E _ _ _ _ h=>absurd h (no vs H Q E)⟩
theorem all_isOf (F:Fun K "is_of" "is_of" sIsOf f fd) (G:Gm mg) (RR:Fn P w K mg base 2 "row_of" ["wood", "kind", "name"] (spRowOf K)) (hb:Binds K fd ["wood", "kind", "tree"] []) (hm:mg "is_of" = some (.ref f)):∀ n:Nat,FnOk P w K mg base CX0 (n + 2) f fd ["wood", "kind", "tree"] (spIsOf K n)
  | 0=>none_isOf
  | n + 1=>ok_isOf F G RR ⟨f,fd,all_isOf F G RR hb hm n,hb,F.kp,hm⟩
theorem scRule:FnScope ["turning", "mode", "name", "kind", "rules", "row", "rule"] ["turning", "mode", "name"] (defScope sRule):=⟨rfl,rfl,rfl,by decide +kernel,rfl,by decide +kernel,by decide +kernel⟩
theorem ok_rule (F:Fun K "rule_of" "rule_of" sRule f fd) (G:Gm mg) (RO:Fn P w K mg base 1 "rows_of" ["wood", "kind"] (spRowsOf K)):FnOk P w K mg base CX0 2 f fd ["turning", "mode", "name"] (spRule K):=by
  refine F.ok scRule (fun vs H Q E h=>?_) (fun cdv A outer s H vs Q E hr h=>?_)
  · obtain ⟨p,wd,lm,v,i,name,ks,ms,m,rfl,_⟩:=h
    rfl
  obtain ⟨p,wd,lm,v,i,name,ks,ms,m,rfl,hp,hW,hO,hM,hm,hlen,q⟩:=h
  refine ⟨_,(pss_cons (ps_set (i:=3) scRule.nd rfl (Or.inl rfl) (pe_ix ix_tup (pe_ix ix_list (pe_ix ix_tup (pv 0) pe_int (fun _ _=>rfl)) (pv 1) (fun _ _=>rfl)) pe_int (fun _ _=>rfl)))
    (pss_cons (ps_set (i:=4) scRule.nd rfl (Or.inl rfl) (pe_ix ix_tup (pe_ix ix_list (pe_ix ix_tup (pv 0) pe_int (fun _ _=>rfl)) (pv 1) (fun _ _=>rfl)) pe_int (fun _ _=>rfl)))
    (pss_cons (ps_for PassesOwn.never rfl (pi_zip rfl G.zip (pa_cons (pe_fn RO hr (pa_cons (pe_ix ix_tup (pv 0) pe_int (fun _ _=>rfl)) (pa_cons (pv 3) pa_nil))) (pa_cons (pv 4) pa_nil))) (pg_tup rfl (pgs_cons (pg_name (i:=5) scRule.nd rfl (Or.inl rfl)) (pgs_cons (pg_name (i:=6) scRule.nd rfl (Or.inl rfl)) pgs_nil)))
      (pss_one (ps_if (pt_cmpR op_eq (pe_ix ix_tup (pv 5) pe_int (fun _ _=>rfl)) (pv 2) (nomark _)) (pss_one (ps_ret (pv 6))) pss_nil)))
    (pss_one (ps_ret pe_non))))),?_⟩
  have hmm:=List.mem_of_getElem? hm
  have hA:=hM.2 m hmm
  have hat:atI (ms.map fun m=>V.ref m.1) (i:Int)=some (.ref m.1):=atI_nat (by rw [List.getElem?_map,hm];rfl)
  refine ⟨_,rfl,p,_,2,_,rfl,rfl,hp,rfl,_,rfl,lm,_,_,_,rfl,rfl,hM.1,hat,m.1,_,0,_,rfl,rfl,hA.1,rfl,?_⟩
  refine ⟨_,rfl,p,_,2,_,rfl,rfl,hp,rfl,_,rfl,lm,_,_,_,rfl,rfl,hM.1,hat,m.1,_,1,_,rfl,rfl,hA.1,rfl,?_⟩
  refine ⟨_,rfl,p,_,0,_,rfl,rfl,hp,rfl,_,rfl,wd,m.2.1,ks,rfl,hW,hO,fun lr H1 g1 hR=>⟨_,rfl,lr,m.2.2.1,_,m.2.2.2.1,rfl,hR.1,g1.seq hA.2.1,?_⟩⟩
  have hul:=hA.2.2.length
  have elr:((rowsK ks m.2.1).map fun t=>V.ref t.1).length=(rowsK ks m.2.1).length:=List.length_map ..
  refine for_zip (K:=K) (by rw [elr];omega) (fun j σ H'=>∃ c5 c6,σ=[some (.ref p),some (.int (i:Int)),some (.str name),some (.str m.2.1),some (.ref m.2.2.1),c5,c6]∧Same H1 H'∧∀ (k:Nat) r,k < j→(rowsK ks m.2.1)[k]?=some r→r.2.1≠name)
    ⟨none,none,rfl,Same.refl _,fun k r hk _=>by omega⟩ ?_ ?_ ?_
  · rintro j σ H' _ ⟨c5,c6,_,g,_⟩
    exact ⟨g.seq hR.1,(g1.trans g).seq hA.2.1⟩
  · rintro j u v' pp σ H' hu hv hpp ⟨c5,c6,rfl,g,hno⟩
    have hjr:j < (rowsK ks m.2.1).length:=by
      have:=(List.getElem?_eq_some_iff.mp hu).1
      simpa using this
    have hjt:j < m.2.2.2.2.length:=by omega
    obtain ⟨cv,hcv,hct⟩:=hA.2.2.get (List.getElem?_eq_getElem hjt)
    obtain rfl:cv=v':=Option.some.inj (hcv.symm.trans hv)
    obtain rfl:u=.ref (rowsK ks m.2.1)[j].1:=by
      rw [List.getElem?_map,List.getElem?_eq_getElem hjr] at hu
      exact (Option.some.inj hu).symm
    have gp:=same_new hpp (.tup [.ref (rowsK ks m.2.1)[j].1,cv])
    have gg:=g1.trans (g.trans gp)
    have hRA:=(hR.2 _ (List.getElem_mem hjr)).same (g.trans gp)
    refine ⟨pp,_,rfl,SqT.of upd_same,rfl,_,_,rfl,_,_,rfl,rfl,?_⟩
    refine ⟨_,rfl,_,_,0,_,rfl,rfl,hRA.1,rfl,_,rfl,rfl,_,rfl,?_⟩
    by_cases he:(rowsK ks m.2.1)[j].2.1=name
    · refine iteP (by rw [he]) ⟨_,rfl,q cv _ gg ?_⟩
      have ef:((rowsK ks m.2.1).zip m.2.2.2.2).find? (fun x=>decide (x.1.2.1=name))=some ((rowsK ks m.2.1)[j],m.2.2.2.2[j]):=by
        refine find_at (i:=j) (by rw [List.getElem?_zip_eq_some];exact ⟨List.getElem?_eq_getElem hjr,List.getElem?_eq_getElem hjt⟩) (decide_eq_true he) fun k y hk e=>?_
        rw [List.getElem?_zip_eq_some] at e
        exact decide_eq_false (hno k y.1 hk e.1)
      unfold ruleK MdT.md
      rw [ef]
      exact hct.mono fun _ _=>gg.seqT
    · refine iteN (fun z=>he (by injection z)) ⟨_,_,rfl,g.trans gp,fun k r hk e=>?_⟩
      by_cases hkj:k=j
      · subst hkj
        rw [List.getElem?_eq_getElem hjr] at e
        cases e
        exact he
      · exact hno k r (by omega) e
  · rintro σ H' ⟨c5,c6,rfl,g,hno⟩
    refine q .non H' (g1.trans g) ?_
    have ef:((rowsK ks m.2.1).zip m.2.2.2.2).find? (fun x=>decide (x.1.2.1=name))=none:=by
      refine find_no fun k y e=>?_
      rw [List.getElem?_zip_eq_some] at e
      have hk:=(List.getElem?_eq_some_iff.mp e.1).1
      exact decide_eq_false (hno k y.1 (by rw [elr];exact hk) e.1)
    unfold ruleK MdT.md
    rw [ef]
    rfl
theorem scCell:FnScope ["_law_script", "_law_k"] ["_law_script", "_law_k"] (defScope sCell):=⟨rfl,rfl,rfl,by decide +kernel,rfl,by decide +kernel,by decide +kernel⟩
theorem ok_cell (F:Fun K "_law_cell_at" "_law_cell_at" sCell f fd) (G:Gm mg):FnOk P w K mg base CX0 1 f fd ["_law_script", "_law_k"] (spCell K):=by
  refine F.ok scCell (fun vs H Q E h=>?_) (fun cdv A outer s H vs Q E hr h=>?_)
  · obtain ⟨a,ns,k,rfl,_⟩:=h
    rfl
  obtain ⟨a,ns,k,rfl,hk0,hS,q⟩:=h
  obtain ⟨j,rfl⟩ : ∃ j:Nat,k=(j:Int):=⟨k.toNat,by omega⟩
  refine ⟨_,(pss_cons (ps_if (pt_cmpR op_lt (pv 1) (pe_callB call_len_seq rfl G.len PySem.boot_len (pa_cons (pv 0) pa_nil)) (nomark _)) (pss_one (ps_ret (pe_ix ix_list (pv 0) (pv 1) (fun _ _=>rfl)))) pss_nil)
    (pss_one (ps_ret pe_int))),?_⟩
  refine ⟨_,rfl,_,rfl,a,_,rfl,.inl hS,_,_,rfl,rfl,_,rfl,ite2 (fun c=>?_) (fun c=>?_)⟩
  · have c':(j:Int) < (((ns.map V.int).length:Nat):Int):=of_decide_eq_true c
    rw [List.length_map] at c'
    have hk:j < ns.length:=by omega
    exact ⟨_,rfl,_,rfl,a,_,j,.int ns[j],rfl,rfl,hS,atI_nat (by rw [List.getElem?_map,List.getElem?_eq_getElem hk];rfl),q _⟩
  · exact q 0
theorem scWhole:FnScope ["_law_found"] ["_law_found"] (defScope sWhole):=⟨rfl,rfl,rfl,by decide +kernel,rfl,by decide +kernel,by decide +kernel⟩
theorem ok_whole (F:Fun K "_law_whole" "_law_whole" sWhole f fd) (G:Gm mg):FnOk P w K mg base CX0 1 f fd ["_law_found"] spWhole:=by
  refine F.ok scWhole (fun vs H Q E h=>?_) (fun cdv A outer s H vs Q E hr h=>?_)
  · obtain ⟨i,rfl,_⟩:=h
    rfl
  obtain ⟨i,rfl,q⟩:=h
  refine ⟨_,(pss_one (ps_ret (pe_and (pe_callB call_isinst rfl G.isi PyProof.Rows.boot_isinstance (pa_cons (pv 0) (pa_cons (pe_bltn (v:=.ty "int") rfl G.int PyProof.Rows.boot_int rfl) pa_nil))) (pe_one (pe_not (pe_callB call_isinst rfl G.isi PyProof.Rows.boot_isinstance (pa_cons (pv 0) (pa_cons (pe_bltn (v:=.ty "bool") rfl G.boo PyProof.Rows.boot_bool rfl) pa_nil)))))))),?_⟩
  exact ⟨_,rfl,_, "int", _,true,rfl,.int _,rfl,_,rfl,iteT ⟨_,rfl,_, "bool", _,false,rfl,.int _,rfl,_,rfl,q⟩⟩
theorem scMP:FnScope ["term", "mark"] ["term", "mark"] (defScope sMP):=⟨rfl,rfl,rfl,by decide +kernel,rfl,by decide +kernel,by decide +kernel⟩
theorem ok_mp (F:Fun K "mark_put" "mark_put" sMP f fd):FnOk P w K mg base CX0 1 f fd ["term", "mark"] (spMP K):=by
  refine F.ok scMP (fun vs H Q E h=>?_) (fun cdv A outer s H vs Q E hr h=>?_)
  · obtain ⟨v,n,k,ad,m,ts,rfl,_⟩:=h
    rfl
  obtain ⟨v,n,k,ad,m,ts,rfl,ht,q⟩:=h
  refine ⟨_,(pss_one (ps_ret (pe_ifExp (pt_val (pe_ix ix_tup (pv 0) pe_int (fun _ _=>rfl))) (pe_op op_add (pe_ix ix_tup (pv 0) pe_int (fun _ _=>rfl)) (pv 1)) (pe_ix ix_tup (pv 0) pe_int (fun _ _=>rfl))))),?_⟩
  cases ht with
  | put h1 h2 h3 h4 =>
    refine ⟨_,rfl,_,_,2,_,rfl,rfl,h1,rfl,_,rfl,?_⟩
    cases k with
    | true=>exact iteT ⟨_,rfl,_,_,3,_,rfl,rfl,h1,rfl,_,rfl,_,_,rfl,rfl,q⟩
    | false=>exact iteF ⟨_,rfl,_,_,3,_,rfl,rfl,h1,rfl,q⟩
theorem scPH:FnScope ["term", "mark"] ["term", "mark"] (defScope sPH):=⟨rfl,rfl,rfl,by decide +kernel,rfl,by decide +kernel,by decide +kernel⟩
theorem ok_ph (F:Fun K "put_head" "put_head" sPH f fd) (G:Gm mg) (RM:Fn P w K mg base 1 "mark_put" ["term", "mark"] (spMP K)):FnOk P w K mg base CX0 2 f fd ["term", "mark"] (spPH K):=by
  refine F.ok scPH (fun vs H Q E h=>?_) (fun cdv A outer s H vs Q E hr h=>?_)
  · obtain ⟨v,n,k,ad,m,ts,rfl,_⟩:=h
    rfl
  obtain ⟨v,n,k,ad,m,ts,rfl,ht,q⟩:=h
  refine ⟨_,(pss_one (ps_ret (pe_tup (pa_cons (pe_ix ix_tup (pv 0) pe_int (fun _ _=>rfl)) (pa_cons (pe_fn RM hr (pa_cons (pv 0) (pa_cons (pv 1) pa_nil))) (pa_cons (pe_callB call_len_seq rfl G.len PySem.boot_len (pa_cons (pe_ix ix_tup (pv 0) pe_int (fun _ _=>rfl)) pa_nil)) pa_nil)))))),?_⟩
  have ht':=ht
  cases ht with
  | @put a b vs _ _ _ _ h1 h2 h3 h4 =>
    refine ⟨_,rfl,a,_,1,_,rfl,rfl,h1,rfl,_,rfl,_,rfl,_,n,k,ad,m,ts,rfl,ht',?_⟩
    refine ⟨_,rfl,a,_,4,_,rfl,rfl,h1,rfl,b,vs,rfl,.inr h2,(by show 3≤sizeLine;decide),fun p hp=>?_⟩
    refine q p _ (same_new hp _) ?_
    rw [h3.length]
    exact upd_same
theorem scHN:FnScope ["branches", "number"] ["branches", "number"] (defScope sHN):=⟨rfl,rfl,rfl,by decide +kernel,rfl,by decide +kernel,by decide +kernel⟩
theorem ok_hn (F:Fun K "has_number" "has_number" sHN f fd) (G:Gm mg):FnOk P w K mg base CX0 1 f fd ["branches", "number"] (spHN K):=by
  refine F.ok scHN (fun vs H Q E h=>?_) (fun cdv A outer s H vs Q E hr h=>?_)
  · obtain ⟨b,xs,i,rfl,_⟩:=h
    rfl
  obtain ⟨b,xs,i,rfl,hb,q⟩:=h
  refine ⟨_,(pss_cons (ps_if (pt_val (pe_callB call_isinst rfl G.isi PyProof.Rows.boot_isinstance (pa_cons (pv 1) (pa_cons (pe_bltn (v:=.ty "bool") rfl G.boo PyProof.Rows.boot_bool rfl) pa_nil)))) (pss_one (ps_ret pe_bl)) pss_nil)
    (pss_one (ps_ret (pe_chain op_le op_lt pe_int (pv 1) (pe_callB call_len_seq rfl G.len PySem.boot_len (pa_cons (pv 0) pa_nil)))))),?_⟩
  refine ⟨_,rfl,_, "bool", _,false,rfl,.int _,rfl,_,rfl,iteF ?_⟩
  refine ⟨_,rfl,_,_,rfl,rfl,_,rfl,?_⟩
  refine ite2 (fun c=>?_) (fun c=>?_)
  · have c':(0:Int)≤i:=of_decide_eq_true c
    refine ⟨_,rfl,b,xs,rfl,.inr hb,_,_,rfl,rfl,?_⟩
    have e:decide (i < ((xs.length:Nat):Int))=decide (0≤i∧i < (xs.length:Int)):=by simp [c']
    show Q (.bl (decide (i < ((xs.length:Nat):Int)))) H
    rw [e];exact q
  · have c':¬ (0:Int)≤i:=of_decide_eq_false (Bool.eq_false_iff.mpr c)
    have e:false=decide (0≤i∧i < (xs.length:Int)):=by simp [c']
    rw [e];exact q
theorem scNeedOf:FnScope ["wood", "kind", "tree"] ["wood", "kind", "tree"] (defScope sNeedOf):=⟨rfl,rfl,rfl,by decide +kernel,rfl,by decide +kernel,by decide +kernel⟩
theorem ok_needOf (F:Fun K "need_of" "need_of" sNeedOf f fd) (RI:Fn P w K mg base 42 "is_of" ["wood", "kind", "tree"] (spIsOf K 40)):FnOk P w K mg base CX0 43 f fd ["wood", "kind", "tree"] (spNeedOf K):=by
  refine F.ok scNeedOf (fun vs H Q E h=>?_) (fun cdv A outer s H vs Q E hr h=>?_)
  · obtain ⟨w,kind,v,t,ks,rfl,_⟩:=h
    rfl
  obtain ⟨wd,kind,v,t,ks,rfl,hW,hO,ht,hlv,hT,q⟩:=h
  refine ⟨_,(pss_one (ps_if (pt_not (pt_val (pe_fn RI hr (pa_cons (pv 0) (pa_cons (pv 1) (pa_cons (pv 2) pa_nil)))))) (pss_one ps_never) pss_nil)),?_⟩
  refine ⟨_,rfl,_,rfl,_,rfl,wd,kind,v,t,ks,rfl,hW,hO,ht,hlv,fun H1 g1=>⟨_,rfl,?_⟩⟩
  rw [hT]
  exact iteF (q H1 g1)
theorem scNeedIn:FnScope ["wood", "tree"] ["wood", "tree"] (defScope sNeedIn):=⟨rfl,rfl,rfl,by decide +kernel,rfl,by decide +kernel,by decide +kernel⟩
theorem ok_needIn (F:Fun K "need_in" "need_in" sNeedIn f fd) (RN:Fn P w K mg base 43 "need_of" ["wood", "kind", "tree"] (spNeedOf K)):FnOk P w K mg base CX0 44 f fd ["wood", "tree"] (spNeedIn K):=by
  refine F.ok scNeedIn (fun vs H Q E h=>?_) (fun cdv A outer s H vs Q E hr h=>?_)
  · obtain ⟨w,v,t,ks,k0,rfl,_⟩:=h
    rfl
  obtain ⟨wd,v,t,ks,k0,rfl,hW,hO,hk0,ht,hlv,hT,q⟩:=h
  refine ⟨_,(pss_one (ps_expr (pe_fn RN hr (pa_cons (pv 0) (pa_cons (pe_ix ix_tup (pe_ix ix_list (pv 0) pe_int (fun _ _=>rfl)) pe_int (fun _ _=>rfl)) (pa_cons (pv 1) pa_nil)))))),?_⟩
  have hat:atI (ks.map fun k=>V.ref k.1) 0=some (.ref k0.1):=atI_nat (j:=0) (by rw [List.getElem?_map,hk0];rfl)
  exact ⟨_,rfl,_,rfl,wd,_,0,_,rfl,rfl,hW.1,hat,k0.1,_,0,_,rfl,rfl,(hW.2 k0 (List.mem_of_getElem? hk0)).1,rfl,_,rfl,wd,k0.2.1,v,t,ks,rfl,hW,hO,ht,hlv,hT,q⟩
theorem scAbove:FnScope ["tree"] ["tree"] (defScope sAbove):=⟨rfl,rfl,rfl,by decide +kernel,rfl,by decide +kernel,by decide +kernel⟩
theorem str_nil:Str.ofString "" = S []:=by decide +kernel
theorem ok_above (F:Fun K "above" "above" sAbove f fd):FnOk P w K mg base CX0 1 f fd ["tree"] (spAbove K):=by
  refine F.ok scAbove (fun vs H Q E h=>?_) (fun cdv A outer s H vs Q E hr h=>?_)
  · obtain ⟨v,t,rfl,_⟩:=h
    rfl
  obtain ⟨v,t,rfl,ht,q⟩:=h
  refine ⟨_,(pss_one (ps_ret (pe_tup (pa_cons (pe_str) (pa_cons (pe_int) (pa_cons ((pe_tup (pa_cons (pv 0) pa_nil))) pa_nil)))))),?_⟩
  refine ⟨_,rfl,(by show 1≤sizeLine;decide),fun p hp=>⟨(by show 3≤sizeLine;decide),fun p2 hp2=>?_⟩⟩
  have g1:=same_new hp (.tup [v])
  have g2:=same_new hp2 (.tup [.str (Str.ofString ""),.int 0,.ref p])
  refine q _ _ (g1.trans g2) ?_
  have h2:=SqT.of (K:=K) (upd_same (H:=upd H p (.tup [v])) (a:=p2) (o:=.tup [.str (Str.ofString ""),.int 0,.ref p]))
  rw [str_nil] at h2 ⊢
  exact .mk h2 (by rw [← str_nil];exact g2.seqT (SqT.of upd_same)) (.cons (by rw [← str_nil];exact ht.mono fun _ _=>(g1.trans g2).seqT) .nil) (by show 1≤1000;decide)
end
end K26
namespace K26
open PySem L2 TM TT K9 K11
structure TurnAt (K:PySem.W.Frag) (H:Hp) (tu wd lm:Addr) (v:V) (ms:List MdT) (T:Tu):Prop where
  tu:SqT K H tu [.ref wd,v,.ref lm]
  w:WoodAt K H wd T.ks
  m:ModesL K H lm ms
  s:TmV K H v T.start
structure TurnOk (ms:List MdT) (T:Tu):Prop where
  wo:WoodOk T.ks
  me:mds ms=T.ms
  ok:TuOk T
  k0:∃ k,T.ks[0]?=some k∧k.2.1=T.k0
theorem TurnAt.same {K:PySem.W.Frag} {H H':Hp} {tu wd lm:Addr} {v:V} {ms:List MdT} {T:Tu} (g:Same H H') (h:TurnAt K H tu wd lm v ms T):TurnAt K H' tu wd lm v ms T :=
  ⟨g.seqT h.tu,h.w.same g,h.m.same g,h.s.mono fun _ _=>g.seqT⟩
theorem TurnOk.get {ms:List MdT} {T:Tu} (h:TurnOk ms T) {i:Nat} {md:Md} (e:T.ms[i]?=some md):∃ m,ms[i]?=some m∧m.md=md∧m.2.2.2.2.length=(rowsK T.ks m.2.1).length:=by
  rw [← h.me,List.getElem?_map] at e
  cases em:ms[i]? with
  | none=>rw [em] at e;cases e
  | some m =>
    rw [em] at e
    obtain rfl:=Option.some.inj e
    refine ⟨m,rfl,rfl,?_⟩
    have hm:m.md ∈ T.ms:=by rw [← h.me];exact List.mem_map.mpr ⟨m,List.mem_of_getElem? em,rfl⟩
    have:=h.ok.rf _ hm
    unfold rulesFit at this
    simp only [Bool.and_eq_true,decide_eq_true_eq] at this
    exact this.1.2
def spFirst (K:PySem.W.Frag):Sp:=fun vs H Q _=>∃ (tu wd lm:Addr) (sv:V) (ms:List MdT) (T:Tu) (v rv:V) (t:Tm) (r:Tree Str),vs=[.ref tu,v,rv]∧TurnAt K H tu wd lm sv ms T∧TurnOk ms T∧TmV K H v t∧TrV K H rv r∧St T (t,r)∧lv r≤60 ∧
  ∀ (p:Addr) (v' rv':V) (H':Hp),Same H H'→SqT K H' p [v',rv']→TmV K H' v' (come T.ks T.ms (t,r)).1→TrV K H' rv' (come T.ks T.ms (t,r)).2→Q (.ref p) H'
def spSeenBy (K:PySem.W.Frag):Sp:=fun vs H Q _=>∃ (tu wd lm:Addr) (sv:V) (ms:List MdT) (T:Tu) (v rv:V) (t:Tm) (r:Tree Str) (pl:Addr) (ns:List Int),vs=[.ref tu,v,rv,.ref pl]∧TurnAt K H tu wd lm sv ms T∧TurnOk ms T∧TmV K H v t∧TrV K H rv r∧St T (t,upT r)∧lv r≤40∧SqT K H pl (ns.map V.int) ∧
  (seenT T (come T.ks T.ms (t,upT r)) ns=none→∀ H',Same H H'→Q .non H') ∧
  ∀ q,seenT T (come T.ks T.ms (t,upT r)) ns=some q→∀ (p:Addr) (H':Hp),Same H H'→H' p=some (.tup [.str (lblN q),.int (lblM q),.int ((q.1.bs.length:Nat):Int)])→Q (.ref p) H'
def spSeen (K:PySem.W.Frag):Sp:=fun vs H Q _=>∃ (tu wd lm:Addr) (sv:V) (ms:List MdT) (T:Tu) (rv:V) (r:Tree Str) (pl:Addr) (ns:List Int),vs=[.ref tu,rv,.ref pl]∧TurnAt K H tu wd lm sv ms T∧TurnOk ms T∧TrV K H rv r∧isT (rowK T.ks) r T.k0=true∧lv r≤40∧SqT K H pl (ns.map V.int) ∧
  (seenT T (come T.ks T.ms (T.start,upT r)) ns=none→∀ H',Same H H'→Q .non H') ∧
  ∀ q,seenT T (come T.ks T.ms (T.start,upT r)) ns=some q→∀ (p:Addr) (H':Hp),Same H H'→H' p=some (.tup [.str (lblN q),.int (lblM q),.int ((q.1.bs.length:Nat):Int)])→Q (.ref p) H'
theorem lv_up (r:Tree Str):lv (upT r)=lv r + 1:=by simp only [upT,TM.lv,lvs];omega
def FW (K:PySem.W.Frag) (H:Hp) (tu:Addr) (v rv:V) (T:Tu) (t:Tm) (r:Tree Str) (m:Nat) (σ:L2.St) (H':Hp):Prop:=∃ (v' rv':V) (t':Tm) (r':Tree Str) (c5:Option V),m=lv r'∧σ=[some (.ref tu),some v,some rv,some v',some rv',c5]∧Same H H'∧TmV K H' v' t'∧TrV K H' rv' r'∧K26.St T (t',r')∧lv r'≤60∧come T.ks T.ms (t',r')=come T.ks T.ms (t,r)
section
variable {P:Program} {w:World} {K:PySem.W.Frag} {mg:Str→Option Value} {base:Heap} {f:Addr} {fd:FuncData}
theorem scFirst:FnScope ["turning", "term", "tree", "rule", "read", "mode"] ["turning", "term", "tree"] (defScope sFirst):=⟨rfl,rfl,rfl,by decide +kernel,rfl,by decide +kernel,by decide +kernel⟩
theorem ok_first (F:Fun K "first_put" "first_put" sFirst f fd) (RC:Fn P w K mg base 1 "is_call" ["term"] (spIsC K)) (RR:Fn P w K mg base 2 "rule_of" ["turning", "mode", "name"] (spRule K)):FnOk P w K mg base CX0 3 f fd ["turning", "term", "tree"] (spFirst K):=by
  refine F.ok scFirst (fun vs H Q E h=>?_) (fun cdv A outer s H vs Q E hr h=>?_)
  · obtain ⟨tu,wd,lm,sv,ms,T,v,rv,t,r,rfl,_⟩:=h
    rfl
  obtain ⟨tu,wd,lm,sv,ms,T,v,rv,t,r,rfl,hT,hO,hv,hrv,hS,hl60,q⟩:=h
  refine ⟨_,(pss_cons (ps_set (i:=3) scFirst.nd rfl (Or.inl rfl) (pv 1))
    (pss_cons (ps_set (i:=4) scFirst.nd rfl (Or.inl rfl) (pv 2))
    (pss_cons (ps_while PassesOwn.never (pt_val (pe_fn RC hr (pa_cons (pv 3) pa_nil))) (pss_cons (ps_set (i:=5) scFirst.nd rfl (Or.inl rfl) (pe_ix ix_tup (pv 3) pe_int (fun _ _=>rfl)))
    (pss_cons (ps_set (i:=4) scFirst.nd rfl (Or.inl rfl) (pe_ix ix_tup (pe_ix ix_tup (pv 4) pe_int (fun _ _=>rfl)) (pe_ix ix_tup (pv 3) pe_int (fun _ _=>rfl)) (fun _ _=>rfl)))
    (pss_one (ps_set (i:=3) scFirst.nd rfl (Or.inl rfl) (pe_fn RR hr (pa_cons (pv 0) (pa_cons (pv 5) (pa_cons (pe_ix ix_tup (pv 4) pe_int (fun _ _=>rfl)) pa_nil)))))))))
    (pss_one (ps_ret (pe_tup (pa_cons (pv 3) (pa_cons (pv 4) pa_nil)))))))),?_⟩
  refine ⟨_,rfl,_,rfl,?_⟩
  refine ⟨FW K H tu v rv T t r,⟨_,v,rv,t,r,none,rfl,rfl,Same.refl H,hv,hrv,hS,hl60,rfl⟩,?_⟩
  rintro m σ H' ⟨v',rv',t',r',c5,rfl,rfl,g,hv',hrv',hS',hl',hc'⟩
  refine ⟨_,rfl,v',t',rfl,hv',_,rfl,?_⟩
  rcases tm_open hv' with ⟨a,mo,b,rfl,rfl,h1⟩ | ⟨a,b,bs,nm,k,ad,rfl,et,h1,h2,h3,h4⟩
  · obtain ⟨c,md,u,b0,m0,hcb,hm,hru,hum,hnx,hS2⟩:=hS'.next hO.ok (m:=mo) (b:=b) rfl
    refine iteT ⟨fun σ' H'=>∃ m',m' < lv r'∧FW K H tu v rv T t r m' σ' H',fun _ _ h=>h,?_⟩
    obtain ⟨ra,rb,rbs,rn,rm,rfl,er,hr1,hr2,hr3,hr4⟩:=tr_open hrv'
    obtain ⟨cv,hcv,hct⟩:=hr3.get hcb
    have hat:atI rbs b=some cv:=by
      rw [show b=((b.toNat:Nat):Int) by omega]
      exact atI_nat hcv
    refine ⟨_,rfl,a,_,1,_,rfl,rfl,h1,rfl,?_⟩
    refine ⟨_,rfl,ra,_,2,_,rfl,rfl,hr1,rfl,_,rfl,a,_,2,_,rfl,rfl,h1,rfl,rb,_,b,cv,rfl,rfl,hr2,hat,?_⟩
    obtain ⟨ca,cb,cbs,cn,cm,rfl,ec,hc1,hc2,hc3,hc4⟩:=tr_open hct
    obtain ⟨mT,hmT,emd,hml⟩:=hO.get hm
    have hT':=hT.same g
    have ecn:nmT c=cn:=by rw [ec];rfl
    refine ⟨_,rfl,_,rfl,_,rfl,ca,_,0,_,rfl,rfl,hc1,rfl,tu,wd,lm,sv,mo.toNat,cn,T.ks,ms,mT,(by rw [Int.toNat_of_nonneg m0];rfl),hT'.tu,hT'.w,hO.wo,hT'.m,hmT,hml,fun v2 H2 g2 ho=>?_⟩
    rw [emd,← ecn,hru] at ho
    have hlc:lv c≤lvs r'.bs:=lv_le (List.mem_of_getElem? hcb)
    have hlr:=lv_bs r'
    exact ⟨lv c,by omega,v2,.ref ca,u,c,_,rfl,rfl,g.trans g2,ho,hct.mono fun _ _=>g2.seqT,hS2,by omega,by rw [← hc',come_next hl' hnx]⟩
  · have hc:isC (lab t')=false:=by rw [et];rfl
    rw [hc]
    refine iteF ⟨_,rfl,_,rfl,(by show 2≤sizeLine;decide),fun p hp=>?_⟩
    have g2:=same_new hp (.tup [.ref a,rv'])
    have e:come T.ks T.ms (t,r)=(t',r'):=by rw [← hc',come_put hc]
    rw [e] at q
    exact q p _ _ _ (g.trans g2) (SqT.of upd_same) (hv'.mono fun _ _=>g2.seqT) (hrv'.mono fun _ _=>g2.seqT)
theorem scSeenBy:FnScope ["turning", "term", "tree", "place", "here", "number", "parts"] ["turning", "term", "tree", "place"] (defScope sSeenBy):=⟨rfl,rfl,rfl,by decide +kernel,rfl,by decide +kernel,by decide +kernel⟩
theorem ok_seenBy (F:Fun K "seen_by" "seen_by" sSeenBy f fd) (G:Gm mg) (RF:Fn P w K mg base 3 "first_put" ["turning", "term", "tree"] (spFirst K)) (RA:Fn P w K mg base 1 "above" ["tree"] (spAbove K)) (RH:Fn P w K mg base 1 "has_number" ["branches", "number"] (spHN K)) (RM:Fn P w K mg base 2 "put_head" ["term", "mark"] (spPH K)) :
    FnOk P w K mg base CX0 4 f fd ["turning", "term", "tree", "place"] (spSeenBy K):=by
  refine F.ok scSeenBy (fun vs H Q E h=>?_) (fun cdv A outer s H vs Q E hr h=>?_)
  · obtain ⟨tu,wd,lm,sv,ms,T,v,rv,t,r,pl,ns,rfl,_⟩:=h
    rfl
  obtain ⟨tu,wd,lm,sv,ms,T,v,rv,t,r,pl,ns,rfl,hT,hO,hv,hrv,hS,hl40,hpl,qn,qs⟩:=h
  refine ⟨_,(pss_cons (ps_set (i:=4) scSeenBy.nd rfl (Or.inl rfl) (pe_fn RF hr (pa_cons (pv 0) (pa_cons (pv 1) (pa_cons (pe_fn RA hr (pa_cons (pv 2) pa_nil)) pa_nil)))))
    (pss_cons (ps_for PassesOwn.never rfl (pi_tup (pv 3)) (pg_name (i:=5) scSeenBy.nd rfl (Or.inl rfl)) (pss_cons (ps_set (i:=6) scSeenBy.nd rfl (Or.inl rfl) (pe_ix ix_tup (pe_ix ix_tup (pv 4) pe_int (fun _ _=>rfl)) pe_int (fun _ _=>rfl)))
    (pss_cons (ps_if (pt_not (pt_val (pe_fn RH hr (pa_cons (pv 6) (pa_cons (pv 5) pa_nil))))) (pss_one (ps_ret pe_non)) pss_nil)
    (pss_one (ps_set (i:=4) scSeenBy.nd rfl (Or.inl rfl) (pe_fn RF hr (pa_cons (pv 0) (pa_cons (pe_ix ix_tup (pv 6) (pv 5) (fun _ _=>rfl)) (pa_cons (pe_ix ix_tup (pv 4) pe_int (fun _ _=>rfl)) pa_nil)))))))))
    (pss_one (ps_ret (pe_fn RM hr (pa_cons (pe_ix ix_tup (pv 4) pe_int (fun _ _=>rfl)) (pa_cons (pe_ix ix_tup (pe_ix ix_tup (pv 4) pe_int (fun _ _=>rfl)) pe_int (fun _ _=>rfl)) pa_nil))))))),?_⟩
  refine ⟨_,rfl,_,rfl,_,rfl,rv,r,rfl,hrv,fun uv H1 g1 huv=>?_⟩
  have hlu:=lv_up r
  refine ⟨tu,wd,lm,sv,ms,T,v,uv,t,upT r,rfl,hT.same g1,hO,hv.mono fun _ _=>g1.seqT,huv,hS,by omega,fun p0 v0 r0 H2 g2 hp0 hv0 hr0=>?_⟩
  obtain ⟨hA1,hA2,hA3⟩:=come_ok hO.ok 60 (t,upT r) (by show lv (upT r)≤60;omega) (Nat.le_refl _) hS
  have hA:At T (come T.ks T.ms (t,upT r)):=⟨hA1,hA2,Nat.le_trans hA3 (by show lv (upT r)≤60;omega)⟩
  generalize come T.ks T.ms (t,upT r)=p at *
  have g12:=g1.trans g2
  refine ⟨_,rfl,pl,rfl,⟨_,g12.seqT hpl⟩,?_⟩
  refine for_tup (K:=K) (xs:=ns.map V.int) (fun i σ H'=>∃ (c5 c6:Option V) (ph:Addr) (vh rh:V) (x:Tm × Tree Str),σ=[some (.ref tu),some v,some rv,some (.ref pl),some (.ref ph),c5,c6]∧Same H H'∧SqT K H' ph [vh,rh]∧TmV K H' vh x.1∧TrV K H' rh x.2∧seenT T p (ns.take i)=some x∧At T x)
    ⟨none,none,p0,v0,r0,p,rfl,g12,hp0,hv0,hr0,rfl,hA⟩ ?_ ?_ ?_
  · rintro i σ H' _ ⟨c5,c6,ph,vh,rh,x,_,g,_⟩
    exact g.seqT hpl
  · rintro i y σ H' hy ⟨c5,c6,ph,vh,rh,x,rfl,g,hph,hvh,hrh,hse,hAx⟩
    obtain ⟨n,hn,rfl⟩ : ∃ n:Int,ns[i]?=some n∧y=.int n:=by
      rw [List.getElem?_map] at hy
      cases e:ns[i]? with
      | none=>rw [e] at hy;cases hy
      | some n=>rw [e] at hy;exact ⟨n,rfl,(Option.some.inj hy).symm⟩
    have hil:i < ns.length:=(List.getElem?_eq_some_iff.mp hn).1
    have hsplit:ns=ns.take i ++ n :: ns.drop (i + 1):=by
      have e1:ns.drop i=n :: ns.drop (i + 1):=by rw [List.drop_eq_getElem_cons hil,(List.getElem?_eq_some_iff.mp hn).2]
      rw [← e1,List.take_append_drop]
    rcases tm_open hvh with ⟨a,mo,b,rfl,ex,h1⟩ | ⟨a,b,bs,nm,k,ad,rfl,et,h1,h2,h3,h4⟩
    · have:=hAx.pt
      rw [ex] at this;cases this
    have hlen:=h3.length
    refine ⟨_,rfl,ph,_,0,_,rfl,rfl,hph,rfl,a,_,4,_,rfl,rfl,h1,rfl,?_⟩
    refine ⟨_,rfl,_,rfl,b,bs,n,rfl,h2,_,rfl,?_⟩
    by_cases hin:0≤n∧n < ((bs.length:Nat):Int)
    · have e:decide (0≤n∧n < ((bs.length:Nat):Int))=true:=decide_eq_true hin
      rw [e]
      obtain ⟨j,rfl⟩ : ∃ j:Nat,n=(j:Int):=⟨n.toNat,by omega⟩
      have hj:j < x.1.bs.length:=by omega
      obtain ⟨cv,hcv,hct⟩:=h3.get (List.getElem?_eq_getElem hj)
      have hst:=hAx.st.part (List.getElem_mem hj)
      refine iteF ⟨_,rfl,_,rfl,_,rfl,b,bs,(j:Int),cv,rfl,rfl,h2,atI_nat hcv,_,rfl,ph,_,1,_,rfl,rfl,hph,rfl,tu,wd,lm,sv,ms,T,cv,rh,x.1.bs[j],x.2,rfl,hT.same g,hO,hct,hrh,hst,hAx.lv,fun p1 v1 r1 H3 g3 hp1 hv1 hr1=>?_⟩
      have hstep:stepAt T x (j:Int)=some (come T.ks T.ms (x.1.bs[j],x.2)):=by
        unfold stepAt
        rw [if_pos (by omega),Int.toNat_natCast,List.getElem?_eq_getElem hj];rfl
      refine ⟨_,_,p1,v1,r1,come T.ks T.ms (x.1.bs[j],x.2),rfl,g.trans g3,hp1,hv1,hr1,?_,hAx.step hO.ok hstep⟩
      rw [List.take_add_one,hn,seenT_app,hse]
      show seenT T x [(j:Int)]=_
      simp only [seenT,hstep]
    · have e:decide (0≤n∧n < ((bs.length:Nat):Int))=false:=decide_eq_false hin
      rw [e]
      refine iteT (qn ?_ H' g)
      rw [hsplit,seenT_app,hse]
      show seenT T x (n :: ns.drop (i + 1))=none
      have hstep:stepAt T x n=none:=by
        unfold stepAt
        by_cases h0:0≤n
        · rw [if_pos h0,List.getElem?_eq_none (by omega)];rfl
        · rw [if_neg h0]
      simp only [seenT,hstep]
  · rintro σ H' ⟨c5,c6,ph,vh,rh,x,rfl,g,hph,hvh,hrh,hse,hAx⟩
    rw [List.take_of_length_le (by rw [List.length_map];exact Nat.le_refl _)] at hse
    rcases tm_open hvh with ⟨a,mo,b,rfl,ex,h1⟩ | ⟨a,b,bs,nm,k,ad,rfl,et,h1,h2,h3,h4⟩
    · have:=hAx.pt
      rw [ex] at this;cases this
    have hlen:=h3.length
    obtain ⟨ra,rb,rbs,rn,rm,rfl,er,hr1,hr2,hr3,hr4⟩:=tr_open hrh
    have hvx:TmV K H' (.ref a) (.node (.put nm k ad) 0 x.1.bs):=by rw [← et];exact hvh
    refine ⟨_,rfl,ph,_,0,_,rfl,rfl,hph,rfl,_,rfl,ph,_,1,_,rfl,rfl,hph,rfl,ra,_,1,_,rfl,rfl,hr1,rfl,.ref a,nm,k,ad,rm,x.1.bs,rfl,hvx,fun p2 H2 g2 hp2=>?_⟩
    have e1:lblN x=nm:=by unfold lblN;rw [et];rfl
    have e2:lblM x=if k=true then ad + rm else ad:=by
      unfold lblM;rw [et]
      have:mkT x.2=rm:=by rw [er];rfl
      simp only [lab,this]
    refine qs x hse p2 _ (g.trans g2) ?_
    rw [e1,e2]
    exact hp2
theorem scSeen:FnScope ["turning", "tree", "place"] ["turning", "tree", "place"] (defScope sSeen):=⟨rfl,rfl,rfl,by decide +kernel,rfl,by decide +kernel,by decide +kernel⟩
theorem ok_seen (F:Fun K "seen" "seen" sSeen f fd) (RN:Fn P w K mg base 44 "need_in" ["wood", "tree"] (spNeedIn K)) (RB:Fn P w K mg base 4 "seen_by" ["turning", "term", "tree", "place"] (spSeenBy K)):FnOk P w K mg base CX0 45 f fd ["turning", "tree", "place"] (spSeen K):=by
  refine F.ok scSeen (fun vs H Q E h=>?_) (fun cdv A outer s H vs Q E hr h=>?_)
  · obtain ⟨tu,wd,lm,sv,ms,T,rv,r,pl,ns,rfl,_⟩:=h
    rfl
  obtain ⟨tu,wd,lm,sv,ms,T,rv,r,pl,ns,rfl,hT,hO,hrv,hk,hl40,hpl,qn,qs⟩:=h
  refine ⟨_,(pss_cons (ps_expr (pe_fn RN hr (pa_cons (pe_ix ix_tup (pv 0) pe_int (fun _ _=>rfl)) (pa_cons (pv 1) pa_nil))))
    (pss_one (ps_ret (pe_fn RB hr (pa_cons (pv 0) (pa_cons (pe_ix ix_tup (pv 0) pe_int (fun _ _=>rfl)) (pa_cons (pv 1) (pa_cons (pv 2) pa_nil)))))))),?_⟩
  obtain ⟨k0,hk0,ek0⟩:=hO.k0
  refine ⟨_,rfl,tu,_,0,_,rfl,rfl,hT.tu,rfl,_,rfl,wd,rv,r,T.ks,k0,rfl,hT.w,hO.wo,hk0,hrv,hl40,by rw [ek0];exact hk,fun H1 g1=>?_⟩
  have hT1:=hT.same g1
  exact ⟨_,rfl,_,rfl,tu,_,1,_,rfl,rfl,hT1.tu,rfl,_,rfl,_,rfl,tu,wd,lm,sv,ms,T,sv,rv,T.start,r,pl,ns,rfl,hT1,hO,hT1.s,hrv.mono fun _ _=>g1.seqT,St.start hO.ok hk,hl40,g1.seqT hpl,fun e H' g=>qn e H' (g1.trans g),fun x e p H' g=>qs x e p H' (g1.trans g)⟩
end
end K26
namespace L2
open PySem PySem.Spec PyProof.Rows PySem.W
theorem strs_of_vals:∀ {ss:List Str} {us:List Value},Vals (ss.map V.str) us→StrsAre us ss
  | [],_,.nil=>.nil
  | x :: r,_,.cons h t=>by
    obtain ⟨k,rfl⟩:=(show ∃ t,_=Value.str x t from h)
    exact .cons x k (strs_of_vals t)
section
variable {X:Cx}
theorem mt_join:MtR X "str.join" (fun x vs H Q=>∃ (sep:Str) (l:Addr) (ss:List Str),x=.str sep∧vs=[.ref l]∧SqL X.K H l (ss.map V.str)∧(ss.map (·.length)).sum + ss.length * sep.length≤16777216∧Q (.str (Txt.join sep ss)) H):=by
  intro pins s σ H x xs v us Q I rx rv h
  obtain ⟨sep,l,ss,rfl,rfl,hl,hz,q⟩:=h
  obtain ⟨t,rfl⟩:=(show ∃ t,v=Value.str sep t from rx)
  obtain ⟨u,rfl,ru⟩:=rv.one
  obtain rfl:u=Value.ref l:=ru
  obtain ⟨its,r,p,_⟩:=I.list hl
  exact join_list p.isList (strs_of_vals r) hz fun t' k=>⟨.str _,H,I.tok _,⟨_,rfl⟩,q⟩
end
section
variable {prog:Program} {w:World} {A:Around} {E:Value→Shared→Prop} {s:Shared}
end
section
variable {X:Cx} {tg:Expr}
end
end L2
namespace K26
open PySem L2 TM TT K9 K11
abbrev MM:Int:=2147483647
def spMixed:Sp:=fun vs H Q _=>∃ (c k:Int),vs=[.int c,.int k]∧0≤k∧k < 1000000∧∀ x:Int,0≤x→x < MM→Q (.int x) H
def spGreat:Sp:=fun vs H Q _=>∃ c:Int,vs=[.int c]∧∀ x:Int,Q (.int x) H
section
variable {P:Program} {w:World} {K:PySem.W.Frag} {mg:Str→Option Value} {base:Heap} {f:Addr} {fd:FuncData}
theorem scMixed:FnScope ["_law_cell", "_law_k", "_law_number"] ["_law_cell", "_law_k"] (defScope sMixed):=⟨rfl,rfl,rfl,by decide +kernel,rfl,by decide +kernel,by decide +kernel⟩
theorem ok_mixed (F:Fun K "_law_mixed" "_law_mixed" sMixed f fd):FnOk P w K mg base CX0 1 f fd ["_law_cell", "_law_k"] spMixed:=by
  refine F.ok scMixed (fun vs H Q E h=>?_) (fun cdv A outer s H vs Q E hr h=>?_)
  · obtain ⟨c,k,rfl,_⟩:=h
    rfl
  obtain ⟨c,k,rfl,k0,k1,q⟩:=h
  refine ⟨_,(pss_cons (ps_set (i:=2) scMixed.nd rfl (Or.inl rfl) (pe_op op_add (pe_op op_mod (pv 0) pe_int) (pe_op op_mul pe_int (pe_op op_add (pv 1) pe_int))))
    (pss_cons (ps_set (i:=2) scMixed.nd rfl (Or.inl rfl) (pe_op op_mod (pe_op op_add (pe_op op_mul (pv 2) (pv 2)) (pe_op op_mul pe_int (pv 1))) pe_int))
    (pss_one (ps_ret (pe_op op_mod (pe_op op_add (pe_op op_add (pe_op op_mul (pv 2) (pv 2)) (pe_op op_mul pe_int (pv 1))) pe_int) pe_int))))),?_⟩
  refine ⟨_,rfl,_,_,rfl,rfl,(by show (0:Int) < 2147483647;decide),_,rfl,_,_,rfl,rfl,_,_,rfl,rfl,.inl ⟨by decide,by decide⟩,_,_,rfl,rfl,?_⟩
  dsimp only
  have a0:0≤c % 2147483647:=Int.emod_nonneg _ (by decide)
  have a1:c % 2147483647 < 2147483647:=Int.emod_lt_of_pos _ (by decide)
  generalize hx:c % 2147483647 + 48271 * (k + 1)=x
  refine ⟨_,rfl,_,rfl,_,_,rfl,rfl,.inl ⟨by omega,by omega⟩,_,rfl,_,_,rfl,rfl,.inl ⟨by decide,by decide⟩,_,_,rfl,rfl,_,_,rfl,rfl,(by show (0:Int) < 2147483647;decide),?_⟩
  dsimp only
  generalize hy:(x * x + 69621 * k) % 2147483647=y
  have b0:0≤y:=by rw [← hy];exact Int.emod_nonneg _ (by decide)
  have b1:y < 2147483647:=by rw [← hy];exact Int.emod_lt_of_pos _ (by decide)
  refine ⟨_,rfl,_,rfl,_,_,rfl,rfl,.inl ⟨by omega,by omega⟩,_,rfl,_,_,rfl,rfl,.inl ⟨by decide,by decide⟩,_,_,rfl,rfl,_,_,rfl,rfl,_,_,rfl,rfl,(by show (0:Int) < 2147483647;decide),?_⟩
  exact q _ (Int.emod_nonneg _ (by decide)) (Int.emod_lt_of_pos _ (by decide))
theorem scGreat:FnScope ["_law_cell"] ["_law_cell"] (defScope sGreat):=⟨rfl,rfl,rfl,by decide +kernel,rfl,by decide +kernel,by decide +kernel⟩
theorem ok_great (F:Fun K "_law_great" "_law_great" sGreat f fd):FnOk P w K mg base CX0 1 f fd ["_law_cell"] spGreat:=by
  refine F.ok scGreat (fun vs H Q E h=>?_) (fun cdv A outer s H vs Q E hr h=>?_)
  · obtain ⟨c,rfl,_⟩:=h
    rfl
  obtain ⟨c,rfl,q⟩:=h
  refine ⟨_,(pss_one (ps_ret (pe_op op_sub (pe_op op_mod (pv 0) (pe_op op_add (pe_op op_mul pe_int (pe_op op_pow pe_int pe_int)) pe_int)) (pe_op op_pow pe_int pe_int)))),?_⟩
  exact ⟨_,rfl,_,_,rfl,rfl,⟨by decide,by decide,by decide⟩,_,_,rfl,rfl,.inl ⟨by decide,by decide⟩,_,_,rfl,rfl,_,_,rfl,rfl,(by show (0:Int) < 2 * 10 ^ 59 + 1;decide),_,_,rfl,rfl,⟨by decide,by decide,by decide⟩,_,_,rfl,rfl,q _⟩
end
end K26
namespace K26
open PySem L2 TM TT K9 K11
section
variable {K:PySem.W.Frag} {H:Hp} {wd:Addr} {ks:List KdT}
end
section
variable {P:Program} {w:World} {K:PySem.W.Frag} {mg:Str→Option Value} {base:Heap} {f:Addr} {fd:FuncData}
end
end K26
namespace L2
open PySem PySem.Builtin PySem.Builtin.Str
theorem fold_le {q:Nat}:∀ (l:List Nat) (n:Nat),(∀ c ∈ l,(reprChar q c).length≤2)→l.foldl (fun n c=>n + (reprChar q c).length) n≤n + 2 * l.length
  | [],n,_=>by simp
  | c :: r,n,h=>by
    have h1:=h c List.mem_cons_self
    have h2:=fold_le r (n + (reprChar q c).length) fun d hd=>h d (List.mem_cons_of_mem _ hd)
    simp only [List.foldl_cons,List.length_cons]
    omega
theorem rep_len {x:PySem.Str} (h:∀ c ∈ x.cps.toList,∀ q,(reprChar q c).length≤2):(reprText x).length≤2 * x.length + 2:=by
  have h1:=foldl_repr_eq (reprQuote x) x.cps.toList #[reprQuote x] 0
  have h2:=fold_le (q:=reprQuote x) x.cps.toList 0 fun c hc=>h c hc _
  show ((x.cps.foldl (fun out c=>out ++ (reprChar (reprQuote x) c).toArray) #[reprQuote x]).push (reprQuote x)).size≤2 * x.cps.size + 2
  rw [Array.size_push,← Array.foldl_toList]
  have e1:(#[reprQuote x]:Array Nat).size=1:=rfl
  have e2:x.cps.toList.length=x.cps.size:=Array.length_toList
  omega
theorem rep_char {c:Nat} (h:Unicode.isPrintable c=true) (q:Nat):(reprChar q c).length≤2:=by
  unfold reprChar
  dsimp only
  split
  · simp
  split
  · simp
  split
  · simp
  split
  · simp
  simp [h]
end L2
namespace K26
open PySem L2 TM TT K9 K11
theorem join_one (cs:List Nat):Txt.join (S []) (cs.map fun c=>S [c])=S cs:=by
  unfold Txt.join
  cases cs with
  | nil=>rfl
  | cons x r =>
    have h:∀ (r:List Nat) (a:List Nat),(r.map fun c=>S [c]).foldl (fun acc p=>acc ++ (S []).cps ++ p.cps) (S a).cps=(S (a ++ r)).cps:=by
      intro r
      induction r with
      | nil=>intro a;simp
      | cons y r ih =>
        intro a
        rw [List.map_cons,List.foldl_cons]
        have e:(S a).cps ++ (S []).cps ++ (S [y]).cps=(S (a ++ [y])).cps:=by simp [S]
        rw [e,ih,List.append_assoc];rfl
    have:=h r [x]
    show (⟨(r.map fun c=>S [c]).foldl (fun acc p=>acc ++ (S []).cps ++ p.cps) (S [x]).cps⟩ : Str)=_
    rw [this];rfl
abbrev LETS:Str:=Str.ofString "abcdefghijklmnopqrstuvwxyz"
def letL:List Nat:=[97,98,99,100,101,102,103,104,105,106,107,108,109,110,111,112,113,114,115,116,117,118,119,120,121,122]
theorem let_eq:LETS=S letL:=by decide +kernel
theorem let_cps:LETS.cps.toList=letL:=by rw [let_eq,S_list]
theorem none_eq:Str.ofString "" = S []:=by decide +kernel
def Nm (z:Str):Prop:=PyData.strOk z=true
theorem Nm.of {u:List Nat} (h:∀ c ∈ u,c < 128):Nm (S u):=by
  unfold Nm PyData.strOk
  rw [Array.all_eq_true_iff_forall_mem]
  intro c hc
  have:c ∈ u:=by simpa [S] using hc
  have:=h c this
  simp;omega
theorem letL_inj {i j:Nat} (hi:i < 26) (hj:j < 26) (e:letL.getD i 0=letL.getD j 0):i=j:=by
  have hn:letL.Nodup:=by decide
  have h1:letL.getD i 0=letL[i]'hi:=by rw [List.getD_eq_getElem?_getD,List.getElem?_eq_getElem (show i < letL.length from hi)];rfl
  have h2:letL.getD j 0=letL[j]'hj:=by rw [List.getD_eq_getElem?_getD,List.getElem?_eq_getElem (show j < letL.length from hj)];rfl
  rw [h1,h2] at e
  exact (List.getElem_inj hn).mp e
theorem letL_mem {i:Nat} (hi:i < 26):letL.getD i 0 ∈ letL∧letL[i]?=some (letL.getD i 0):=by
  have hl:i < letL.length:=hi
  have e:letL.getD i 0=letL[i]:=by rw [List.getD_eq_getElem?_getD,List.getElem?_eq_getElem hl];rfl
  rw [e]
  exact ⟨List.getElem_mem hl,List.getElem?_eq_getElem hl⟩
theorem letL_small:∀ c ∈ letL,c < 128:=by decide
def code (j:Nat):Nat:=letL.getD j 0
abbrev rJoin (K:PySem.W.Frag):V→List V→Hp→VK→Prop:=fun x vs H Q=>∃ (sep:Str) (l:Addr) (ss:List Str),x=.str sep∧vs=[.ref l]∧SqL K H l (ss.map V.str)∧(ss.map (·.length)).sum + ss.length * sep.length≤16777216∧Q (.str (Txt.join sep ss)) H
abbrev NV (bs:List Nat):List V:=bs.map fun (b:Nat)=>V.int (b:Int)
theorem pe_bmK {X:Cx} {K:PySem.W.Frag} {o e:Expr} {es:List Expr} {to:TE} {t:TA} {name:Str} {apos cpos:Pos} {T id:String} {r:V→List V→Hp→VK→Prop} (hK:X.K=K) (pa:PlainAttrs T) (slot:Slot T name id) (hty:typeOf (.builtin id)=pure (.type "method_descriptor")) (hm:MtR X id r) (ho:PE X o to) (ha:PA X (e :: es) t)
    (hbase:attributeBase o name X.env (eval o X.env)=eval o X.env:=by rfl)
    (hfew:((backTo cpos (starEach (e :: es) X.env)).all (fun x=>!x.1) && (backToKw cpos (keywordEach [] X.env)).all (fun x=>x.1.isSome)
      && decide ((e :: es).length + ([]:List Keyword).length + (if ([]:List Keyword).isEmpty then 0 else 1) < 30))=true:=by rfl)
    (hline:(apos.endLine == cpos.line)=true:=by rfl) (hs:starEach (e :: es) X.env=(false,eval e X.env) :: starEach es X.env:=by rfl) (hplain:(backTo cpos (starEach es X.env)).any (·.1)=false:=by rfl) :
    PE X (.Call (.Attribute o name apos) (e :: es) [] cpos) (tBM K T r to t):=by
  subst hK
  exact pe_bm pa slot hty hm ho ha hbase hfew hline hs hplain
theorem pi_listK {X:Cx} {K:PySem.W.Frag} {tg l:Expr} {tl:TE} (hK:X.K=K) (hl:PE X l tl):PI X tg l (iList K tl):=by
  subst hK
  exact pi_list hl
theorem nodup_map {α:Type} (g:Nat→α) (n:Nat) (h:∀ i j,i < n→j < n→g i=g j→i=j):((List.range n).map g).Nodup:=by
  rw [List.Nodup,List.pairwise_map]
  refine (List.nodup_range (n:=n)).imp_of_mem fun {a b} ha hb hne e=>hne (h a b (List.mem_range.mp ha) (List.mem_range.mp hb) e)
theorem code_ok {bs:List Nat} (h:∀ b ∈ bs,b < 26):PyData.strOk (S (bs.map code))=true:=Nm.of fun c hc=>by
  obtain ⟨b,hb,rfl⟩:=List.mem_map.mp hc
  exact letL_small _ (letL_mem (h b hb)).1
theorem join_codes {cs:List Nat} (h:cs.length≤8):((cs.map fun c=>S [c]).map (·.length)).sum + (cs.map fun c=>S [c]).length * (S []).length≤16777216:=by
  have e:((cs.map fun c=>S [c]).map (·.length))=cs.map fun _=>1:=by
    rw [List.map_map]
    exact List.map_congr_left fun c _=>by simp [S_len]
  have e2:(cs.map fun _=>1).sum=cs.length:=by
    clear e h
    induction cs with
    | nil=>rfl
    | cons x r ih=>rw [List.map_cons,List.sum_cons,ih,List.length_cons];omega
  rw [e,e2,S_len]
  simp only [List.length_nil,Nat.mul_zero]
  omega
theorem at_let {y:Nat} (hy:y < 26):atI LETS.cps.toList ((y:Nat):Int)=some (code y):=by rw [let_cps];exact atI_nat (letL_mem hy).2
def LN (z:Str):Prop:=∃ bs:List Nat,z=S (bs.map code)∧bs.length≤8∧∀ b ∈ bs,b < 26
theorem code_prints:∀ b,b < 26→Unicode.isPrintable (code b)=true:=by decide +kernel
theorem LN.rep {z:Str} (h:LN z):(reprText z).length≤1000:=by
  obtain ⟨bs,rfl,hl,hb⟩:=h
  have h1:=rep_len (x:=S (bs.map code)) fun c hc q=>by
    have hc':c ∈ bs.map code:=by simpa [S] using hc
    obtain ⟨b,hbm,rfl⟩:=List.mem_map.mp hc'
    exact rep_char (code_prints b (hb b hbm)) q
  rw [S_len,List.length_map] at h1
  omega
def spNames (K:PySem.W.Frag):Sp:=fun vs H Q _=>∃ c:Int,vs=[.int c]∧∀ (l:Addr) (H':Hp) (ns:List Str),Same H H'→H' l=some (.lst (ns.map V.str))→ns.length=8→ns.Nodup→(∀ n ∈ ns,PyData.strOk n=true)→(∀ n ∈ ns,LN n)→Q (.ref l) H'
section
variable {P:Program} {w:World} {K:PySem.W.Frag} {mg:Str→Option Value} {base:Heap} {f:Addr} {fd:FuncData}
theorem scNames:FnScope ["_law_cell", "_law_letters", "_law_base", "_law_width", "_law_spot", "_law_names_here", "_law_k", "_law_moved"] ["_law_cell"] (defScope sNames):=⟨rfl,rfl,rfl,by decide +kernel,rfl,by decide +kernel,by decide +kernel⟩
theorem ok_names (F:Fun K "_law_names" "_law_names" sNames f fd) (G:Gm mg) (RM:Fn P w K mg base 1 "_law_mixed" ["_law_cell", "_law_k"] spMixed):FnOk P w K mg base CX0 2 f fd ["_law_cell"] (spNames K):=by
  refine F.ok scNames (fun vs H Q E h=>?_) (fun cdv A outer s H vs Q E hr h=>?_)
  · obtain ⟨c,rfl,_⟩:=h
    rfl
  obtain ⟨c,rfl,q⟩:=h
  refine ⟨_,(pss_cons (ps_set (i:=1) scNames.nd rfl (Or.inr rfl) pe_str)
    (pss_cons (ps_set (i:=2) scNames.nd rfl (Or.inr rfl) (pe_lcompG (CompG.many (xs:=["_law_j"]) (caps:=["_law_cell"]) (cap:=[0]) (cs:=[_]) rfl rfl (by decide +kernel) (by decide +kernel) (by decide +kernel) (by decide +kernel) (by decide +kernel) (by decide +kernel) rfl rfl rfl) rfl (pi_range1 rfl G.rng (pa_cons (pe_int) pa_nil)) (pg_c1 (CompG.many (xs:=["_law_j"]) (caps:=["_law_cell"]) (cap:=[0]) (cs:=[_]) rfl rfl (by decide +kernel) (by decide +kernel) (by decide +kernel) (by decide +kernel) (by decide +kernel) (by decide +kernel) rfl rfl rfl)) (fun _ _ _ _=>pf_nil) (fun _ _ _ _=>pe_op (r:=rI (fun _ j=>0 < j) fun i j=>.int (i % j)) op_mod (pe_fn RM hr (pa_cons (pv 1) (pa_cons (pv 0) pa_nil))) pe_int)))
    (pss_cons (ps_if (pt_cmpR op_eq (pe_op op_mod (pe_op op_fdiv (pv 0) pe_int) pe_int) pe_int (nomark _)) (pss_one (ps_ret (pe_lcompG (CompG.many (xs:=["_law_k"]) (caps:=["_law_base", "_law_letters"]) (cap:=[2,1]) (cs:=[_,_]) rfl rfl (by decide +kernel) (by decide +kernel) (by decide +kernel) (by decide +kernel) (by decide +kernel) (by decide +kernel) rfl rfl rfl) rfl (pi_range1 rfl G.rng (pa_cons (pe_int) pa_nil)) (pg_c1 (CompG.many (xs:=["_law_k"]) (caps:=["_law_base", "_law_letters"]) (cap:=[2,1]) (cs:=[_,_]) rfl rfl (by decide +kernel) (by decide +kernel) (by decide +kernel) (by decide +kernel) (by decide +kernel) (by decide +kernel) rfl rfl rfl)) (fun _ _ _ _=>pf_nil)
      (fun _ _ _ _=>pe_bmK (K:=K) (r:=rJoin K) rfl PySem.F.plainAttrs_str PySem.F.slot_str_join PySem.F.type_str_join mt_join pe_str (pa_cons (pe_lcompG (CompG.many (xs:=["_law_j"]) (caps:=["_law_letters"]) (cap:=[2]) (cs:=[_]) rfl rfl (by decide +kernel) (by decide +kernel) (by decide +kernel) (by decide +kernel) (by decide +kernel) (by decide +kernel) rfl rfl rfl) rfl (pi_listK (K:=K) rfl (pe_slice (r:=rSlL K) sl_list (pv 1) po_none (po_some (pe_op (r:=rI0 fun i j=>.int (i + j)) op_add (pv 0) pe_int)))) (pg_c1 (CompG.many (xs:=["_law_j"]) (caps:=["_law_letters"]) (cap:=[2]) (cs:=[_]) rfl rfl (by decide +kernel) (by decide +kernel) (by decide +kernel) (by decide +kernel) (by decide +kernel) (by decide +kernel) rfl rfl rfl)) (fun _ _ _ _=>pf_nil) (fun _ _ _ _=>pe_ix ix_str (pv 1) (pv 0) (fun _ _=>rfl))) pa_nil))))) pss_nil)
    (pss_cons (ps_set (i:=3) scNames.nd rfl (Or.inl rfl) (pe_op op_add pe_int (pe_op op_mod (pv 0) pe_int)))
    (pss_cons (ps_set (i:=4) scNames.nd rfl (Or.inl rfl) (pe_op op_mod (pe_op op_fdiv (pv 0) pe_int) (pv 3)))
    (pss_cons (ps_set (i:=5) scNames.nd rfl (Or.inl rfl) (pe_lst pa_nil))
    (pss_cons (ps_for PassesOwn.never rfl (pi_range1 rfl G.rng (pa_cons (pe_int) pa_nil)) (pg_name (i:=6) scNames.nd rfl (Or.inl rfl)) (pss_cons (ps_set (i:=7) scNames.nd rfl (Or.inl rfl) (pe_slice sl_list (pv 2) po_none (po_some (pv 3))))
    (pss_cons (ps_asg (pe_op op_mod (pe_op op_add (pe_ix ix_list (pv 7) (pv 4) (fun _ _=>rfl)) (pv 6)) pe_int) (pg_sub (pv 7) (pv 4) set_list))
    (pss_one (ps_expr (pe_bm PySem.F.plainAttrs_list PySem.F.slot_list_append PySem.F.type_list_append mt_append (pv 5) (pa_cons (pe_bm (r:=rJoin K) PySem.F.plainAttrs_str PySem.F.slot_str_join PySem.F.type_str_join mt_join pe_str (pa_cons (pe_lcompG (CompG.many (xs:=["_law_j"]) (caps:=["_law_letters"]) (cap:=[1]) (cs:=[_]) rfl rfl (by decide +kernel) (by decide +kernel) (by decide +kernel) (by decide +kernel) (by decide +kernel) (by decide +kernel) rfl rfl rfl) rfl (pi_list (pv 7)) (pg_c1 (CompG.many (xs:=["_law_j"]) (caps:=["_law_letters"]) (cap:=[1]) (cs:=[_]) rfl rfl (by decide +kernel) (by decide +kernel) (by decide +kernel) (by decide +kernel) (by decide +kernel) (by decide +kernel) rfl rfl rfl)) (fun _ _ _ _=>pf_nil) (fun _ _ _ _=>pe_ix ix_str (pv 1) (pv 0) (fun _ _=>rfl))) pa_nil)) pa_nil)))))))
    (pss_one (ps_ret (pv 5)))))))))),?_⟩
  have eL:Str.ofString "abcdefghijklmnopqrstuvwxyz" = LETS:=rfl
  refine ⟨8,rfl,by decide,by decide,fun lb hlb=>?_⟩
  refine c1_range (lo:=0) (n:=8) (cs:=[some (.int c)]) (tt:=fun _ H Q=>Q true H) (fun j ys H'=>∃ bs:List Nat,ys=NV bs∧bs.length=j∧(∀ b ∈ bs,b < 26)∧H' lb=some (.lst ys)∧Same H H')
    ⟨[],rfl,rfl,fun b hb=>(nomatch hb),upd_same,same_new hlb _⟩ ?_ ?_
  · rintro j ys H' hj ⟨bs,rfl,hbl,hb26,hy,g⟩
    refine iteT ⟨_,rfl,_,rfl,c,0 + (j:Int),rfl,by omega,by omega,fun x x0 x1=>⟨_,_,rfl,rfl,(by show (0:Int) < 26;decide),?_⟩⟩
    have y0:0≤x % 26:=Int.emod_nonneg _ (by decide)
    have y1:x % 26 < 26:=Int.emod_lt_of_pos _ (by decide)
    refine comp_next hj hy (by rw [List.length_map];omega) ⟨bs ++ [(x % 26).toNat],?_,by rw [List.length_append,List.length_singleton,hbl],fun b hb=>?_,upd_same,fun z u e=>?_⟩
    · unfold NV
      rw [List.map_append]
      show _ ++ [V.int (x % 26)]=_ ++ [V.int (((x % 26).toNat:Nat):Int)]
      rw [Int.toNat_of_nonneg y0]
    · rcases List.mem_append.mp hb with hb | hb
      · exact hb26 b hb
      · have:b=(x % 26).toNat:=by simpa using hb
        rw [this];omega
    · rw [upd_ne (ne_of_none e hlb)];exact g _ _ e
  rintro ys H1 ⟨bs,rfl,hbl,hb26,hlb1,g1⟩
  have word:∀ (us:List Nat) (l2 lu:Addr) (Hx:Hp) (R:Hp→Prop),Hx l2=none→Hx lu=some (.lst (NV us))→us.length≤8→(∀ b ∈ us,b < 26) →
      (∀ H',Same Hx H'→H' l2=some (.lst (((us.map code).map fun c=>S [c]).map V.str))→R H')→CGoal (Itl K lu) 1 [some (.str LETS)] (gName 0) (fun _ H Q=>Q true H) (tOp rIxS (tVar 1) (tVar 0)) Hx l2 R:=by
    intro us l2 lu Hx R h2 hu hul hu26 hR
    have hne:lu≠l2:=fun z=>by rw [z,h2] at hu;cases hu
    refine c1_list (K:=K) (xs:=NV us) (cs:=[some (.str LETS)]) (fun m ys H'=>ys=(((us.take m).map code).map fun c=>S [c]).map V.str∧H' l2=some (.lst ys)∧Same Hx H')
      ⟨rfl,upd_same,same_new h2 _⟩ ?_ ?_ ?_
    · rintro m ys H' _ ⟨_,_,g⟩
      exact SqL.of (g _ _ hu)
    · rintro m x ys H' hm hx ⟨rfl,hy,g⟩
      have hml:m < us.length:=by simpa using hm
      obtain rfl:x=.int ((us[m]:Nat):Int):=by
        rw [List.getElem?_map,List.getElem?_eq_getElem hml] at hx
        exact (Option.some.inj hx).symm
      have hlt:=hu26 _ (List.getElem_mem hml)
      refine iteT ⟨_,rfl,_,rfl,LETS,_,_,rfl,rfl,(by rw [let_eq,S_len];exact line_of (by decide)),at_let hlt,?_⟩
      refine comp_next hm hy (by simp only [List.length_map,List.length_take];omega) ⟨?_,upd_same,fun z u e=>?_⟩
      · rw [List.take_add_one,List.getElem?_eq_getElem hml]
        simp only [Option.toList_some,List.map_append,List.map_cons,List.map_nil]
        rfl
      · rw [upd_ne (ne_of_none e h2)];exact g _ _ e
    · rintro ys H' ⟨rfl,hy,g⟩
      rw [List.length_map,List.take_length] at hy
      exact hR H' g hy
  refine ⟨_,rfl,_,_,rfl,rfl,⟨by decide,by decide⟩,_,_,rfl,rfl,(by show (0:Int) < 4;decide),rfl,_,rfl,ite2 (fun _=>?_) (fun _=>?_)⟩
  · refine ⟨8,rfl,by decide,by decide,fun ln hln=>?_⟩
    refine c1_range (lo:=0) (n:=8) (cs:=[some (.ref lb),some (.str LETS)]) (tt:=fun _ H Q=>Q true H) (fun j ys H'=>ys=((List.range j).map fun k=>S ((bs.take (k + 1)).map code)).map V.str∧H' ln=some (.lst ys)∧Same H1 H')
      ⟨rfl,upd_same,same_new hln _⟩ ?_ ?_
    · rintro j ys H' hj ⟨rfl,hy,g⟩
      refine iteT ⟨rfl,_,rfl,_,rfl,_,_,rfl,rfl,_,rfl,lb,_,rfl,SqL.of (g _ _ hlb1),fun ps hps=>⟨ps,rfl,⟨_,SqL.of upd_same⟩,fun l2 hl2=>?_⟩⟩
      have ecut:cutV (NV bs) none (some (0 + (j:Int)+1))=NV (bs.take (j + 1)):=by
        rw [show (0:Int)+(j:Int)+1=((j + 1:Nat):Int) by omega,cutTo];unfold NV;rw [List.map_take]
      have kp:=same_new hps (.lst (cutV (NV bs) none (some (0 + (j:Int)+1))))
      refine word (bs.take (j + 1)) l2 ps _ _ hl2 (by rw [← ecut];exact upd_same) (by rw [List.length_take];omega) (fun b hb=>hb26 b (List.mem_of_mem_take hb)) fun H3 g3 h3=>?_
      have k3:=kp.trans g3
      refine ⟨S [],l2,_,by rw [← none_eq],rfl,SqL.of h3,join_codes (by rw [List.length_map,List.length_take];omega),?_⟩
      rw [join_one]
      refine comp_next hj (k3 _ _ hy) (by simp only [List.length_map,List.length_range];omega) ⟨?_,upd_same,fun z u e=>?_⟩
      · rw [List.range_succ,List.map_append,List.map_append];rfl
      · rw [upd_ne (ne_of_none e hln)];exact k3 _ _ (g _ _ e)
    · rintro ys H' ⟨rfl,hy,g⟩
      refine q ln H' _ (g1.trans g) hy (by simp) (nodup_map _ 8 fun i j hi hj e=>?_) (fun x hx=>?_) fun x hx=>?_
      · have:=congrArg List.length (S_inj e)
        simp only [List.length_map,List.length_take] at this
        omega
      · obtain ⟨k,_,rfl⟩:=List.mem_map.mp hx
        exact code_ok fun b hb=>hb26 b (List.mem_of_mem_take hb)
      · obtain ⟨k,_,rfl⟩:=List.mem_map.mp hx
        exact ⟨_,rfl,by rw [List.length_take];omega,fun b hb=>hb26 b (List.mem_of_mem_take hb)⟩
  have w0:0≤c % 8:=Int.emod_nonneg _ (by decide)
  have w1:c % 8 < 8:=Int.emod_lt_of_pos _ (by decide)
  refine ⟨_,rfl,_,_,rfl,rfl,(by show (0:Int) < 8;decide),_,_,rfl,rfl,?_⟩
  dsimp only
  obtain ⟨wi,hwi⟩ : ∃ wi:Nat,1 + c % 8=(wi:Int):=⟨(1 + c % 8).toNat,by omega⟩
  rw [hwi]
  have hwi0:0 < wi:=by omega
  have hwi8:wi≤8:=by omega
  refine ⟨_,rfl,_,_,rfl,rfl,⟨by decide,by decide⟩,_,rfl,_,_,rfl,rfl,(by show (0:Int) < (wi:Int);omega),?_⟩
  dsimp only
  have s0:0≤c / 8 % (wi:Int):=Int.emod_nonneg _ (by omega)
  have s1:c / 8 % (wi:Int) < (wi:Int):=Int.emod_lt_of_pos _ (by omega)
  obtain ⟨sp,hsp⟩ : ∃ sp:Nat,c / 8 % (wi:Int)=(sp:Int):=⟨(c / 8 % (wi:Int)).toNat,by omega⟩
  rw [hsp]
  have hspw:sp < wi:=by omega
  obtain ⟨bw,hbw⟩ : ∃ bw,bw=bs.take wi:=⟨_,rfl⟩
  have hbwl:bw.length=wi:=by rw [hbw,List.length_take];omega
  have hbw26:∀ b ∈ bw,b < 26:=fun b hb=>hb26 b (List.mem_of_mem_take (by rw [← hbw];exact hb))
  have hspl:sp < bw.length:=by omega
  refine ⟨(by show 0≤sizeLine;decide),fun ln hln=>?_⟩
  refine ⟨8,rfl,by decide,by decide,?_⟩
  refine for_range (lo:=0) (n:=8) (fun j σ H'=>∃ c6 c7:Option V,σ=[some (.int c),some (.str LETS),some (.ref lb),some (.int (wi:Int)),some (.int (sp:Int)),some (.ref ln),c6,c7]∧Same H1 H'∧H' ln=some (.lst (((List.range j).map fun k=>S ((bw.set sp ((bw[sp]+k) % 26)).map code)).map V.str)))
    ⟨none,none,rfl,same_new hln _,upd_same⟩ ?_ ?_
  · rintro j σ H' hj ⟨c6,c7,rfl,g,hy⟩
    refine ⟨_,rfl,_,rfl,_,rfl,lb,_,rfl,SqL.of (g _ _ hlb1),fun lm hlm=>?_⟩
    have ecut:cutV (NV bs) none (some (wi:Int))=NV bw:=by rw [cutTo,hbw];unfold NV;rw [List.map_take]
    have km:=same_new hlm (.lst (cutV (NV bs) none (some (wi:Int))))
    have hlm2:upd H' lm (.lst (cutV (NV bs) none (some (wi:Int)))) lm=some (.lst (NV bw)):=by rw [← ecut];exact upd_same
    have hlnm:ln≠lm:=fun z=>by rw [← z,hy] at hlm;cases hlm
    generalize upd H' lm (.lst (cutV (NV bs) none (some (wi:Int))))=H2 at km hlm2
    have hat:atI (NV bw) (sp:Int)=some (.int ((bw[sp]:Nat):Int)):=atI_nat (by rw [List.getElem?_map,List.getElem?_eq_getElem hspl];rfl)
    refine ⟨_,rfl,_,rfl,lm,_,_,_,rfl,rfl,SqL.of hlm2,hat,_,rfl,_,_,rfl,rfl,_,_,rfl,rfl,(by show (0:Int) < 26;decide),_,rfl,_,rfl,lm,NV bw,(sp:Int),sp,rfl,rfl,hlm2,ixN_nat (by rw [List.length_map];exact hspl),?_⟩
    have hset:(NV bw).set sp (.int ((((bw[sp]:Nat):Int)+(0 + (j:Int))) % 26))=NV (bw.set sp ((bw[sp]+j) % 26)):=by
      unfold NV
      rw [List.map_set]
      congr 2
      omega
    rw [hset]
    have hln3:upd H2 lm (.lst (NV (bw.set sp ((bw[sp]+j) % 26)))) ln=some (.lst (((List.range j).map fun k=>S ((bw.set sp ((bw[sp]+k) % 26)).map code)).map V.str)):=by rw [upd_ne hlnm];exact km _ _ hy
    refine ⟨_,rfl,.inl ⟨rfl,_,SqL.of hln3⟩,rfl,_,rfl,lm,rfl,⟨_,SqL.of upd_same⟩,fun l2 hl2=>?_⟩
    have hml:∀ b ∈ bw.set sp ((bw[sp]+j) % 26),b < 26:=fun b hb=>by
      rcases List.mem_or_eq_of_mem_set hb with hb | hb
      · exact hbw26 b hb
      · rw [hb];exact Nat.mod_lt _ (by decide)
    refine word _ l2 lm _ _ hl2 upd_same (by rw [List.length_set];omega) hml fun H4 g4 h4=>?_
    refine ⟨S [],l2,_,by rw [← none_eq],rfl,SqL.of h4,join_codes (by rw [List.length_map,List.length_set];omega),?_⟩
    rw [join_one]
    refine ⟨ln,_,_,rfl,rfl,g4 _ _ hln3,by simp only [List.length_map,List.length_range,size_line];omega,_,_,rfl,fun z u e=>?_,?_⟩
    · rw [upd_ne (ne_of_none e hln)]
      refine g4 _ _ ?_
      have hz:z≠lm:=fun y=>by rw [y] at e;rw [g _ _ e] at hlm;cases hlm
      rw [upd_ne hz]
      exact km _ _ (g _ _ e)
    · rw [upd_same,List.range_succ,List.map_append,List.map_append];rfl
  · rintro σ H' ⟨c6,c7,rfl,g,hy⟩
    refine ⟨_,rfl,q ln H' _ (g1.trans g) hy (by simp) (nodup_map _ 8 fun i j hi hj e=>?_) (fun x hx=>?_) fun x hx=>?_⟩
    · have e2:=congrArg (fun l=>l[sp]?) (S_inj e)
      simp only [List.getElem?_map,List.getElem?_set_self hspl,Option.map_some] at e2
      have e3:=letL_inj (Nat.mod_lt _ (by decide)) (Nat.mod_lt _ (by decide)) (Option.some.inj e2)
      omega
    · obtain ⟨k,_,rfl⟩:=List.mem_map.mp hx
      refine code_ok fun b hb=>?_
      rcases List.mem_or_eq_of_mem_set hb with hb | hb
      · exact hbw26 b hb
      · rw [hb];exact Nat.mod_lt _ (by decide)
    · obtain ⟨k,_,rfl⟩:=List.mem_map.mp hx
      refine ⟨_,rfl,by rw [List.length_set];omega,fun b hb=>?_⟩
      rcases List.mem_or_eq_of_mem_set hb with hb | hb
      · exact hbw26 b hb
      · rw [hb];exact Nat.mod_lt _ (by decide)
end
end K26
namespace K26
open PySem L2 TM TT K9 K11
abbrev PI' (p:List Int):List V:=p.map V.int
abbrev Rf (ts:List (Addr × List Int)):List V:=ts.map fun t=>V.ref t.1
def TsAt (K:PySem.W.Frag) (H:Hp) (ts:List (Addr × List Int)):Prop:=∀ t ∈ ts,SqT K H t.1 (PI' t.2)
theorem TsAt.mono {K:PySem.W.Frag} {H H':Hp} {ts:List (Addr × List Int)} (h:TsAt K H ts) (k:∀ a xs,SqT K H a xs→SqT K H' a xs):TsAt K H' ts:=fun t ht=>k _ _ (h t ht)
theorem TsAt.app {K:PySem.W.Frag} {H:Hp} {ts us:List (Addr × List Int)} (h:TsAt K H ts) (k:TsAt K H us):TsAt K H (ts ++ us):=fun t ht=>by
  rcases List.mem_append.mp ht with z | z
  · exact h t z
  · exact k t z
structure TF (own kinds:List Str) (d:Nat) (t:Tm):Prop where
  lv:TM.lv t≤d
  sz:TM.sz t≤3 ^ d
  mok:MOk (2 * d) t
  fit:fitT own kinds t=true
section
variable {P:Program} {w:World} {K:PySem.W.Frag} {mg:Str→Option Value} {base:Heap} {f:Addr} {fd:FuncData}
end
end K26
namespace L2
open PySem
def SameX (x:Addr) (H H':Hp):Prop:=∀ b u,b≠x→H b=some u→H' b=some u
theorem SameX.trans {x:Addr} {H H1 H2:Hp} (a:SameX x H H1) (b:SameX x H1 H2):SameX x H H2:=fun c u n e=>b c u n (a c u n e)
theorem SameX.of {x:Addr} {H H':Hp} (h:Same H H'):SameX x H H':=fun b u _ e=>h b u e
theorem SameX.upd {x:Addr} {H:Hp} {o:HO}:SameX x H (upd H x o):=fun b u n e=>by rw [upd_ne n];exact e
theorem SameX.same {x:Addr} {H H':Hp} (h:SameX x H H') (n:H x=none):Same H H':=fun b u e=>h b u (ne_of_none e n) e
structure InsAt (H:Hp) (x:Addr):Prop where
  ex:∃ C dx fs,H x=some (.ins C dx fs)
end L2
namespace L2
open PySem PySem.Spec PyProof.Rows
def lamArgs (e:Expr):Arguments:=match e with
  | .Lambda a _ _ _=>a
  | _=>{ posonlyargs:=[],args:=[],vararg:=none,kwonlyargs:=[],kw_defaults:=[],kwarg:=none,defaults:=[] }
def lamBody (e:Expr):Expr:=match e with
  | .Lambda _ b _ _=>b
  | _=>e
def lamScope (e:Expr):Scope:=match e with
  | .Lambda _ _ s _=>s
  | _=>{ kind:=.function,names:=[],isGenerator:=false,isCoroutine:=false }
def lamPos (e:Expr):Pos:=match e with
  | .Lambda _ _ _ p=>p
  | _=>⟨0,0,0,0⟩
def retOf (s:Stmt):Expr:=match (defBody s).getLast? with
  | some (.Return (some e) _)=>e
  | _=>.Name "" ⟨0,0,0,0⟩
def argOf (e:Expr) (i:Nat):Expr:=match e with
  | .Call _ as _ _=>as.getD i e
  | _=>e
abbrev lamFn (qual:Str) (e:Expr) (pm:Value) (c:Addr) (ctv:Value):FuncData:=PySem.W.kla_fn "<lambda>" qual (lamArgs e) (lamBody e) (lamScope e) [] pm (.ref c) ctv
def LamO (f:Addr) (fd:FuncData):HO:=.ext fun h=>h.get? f=some { cls:=.type "function", data:=.func fd }
def CodO (c:Addr) (qual:Str):HO:=.ext fun h=>h.CodeRec (.ref c) qual
structure LamAt (H:Hp) (f:Addr) (e:Expr):Prop where
  ex:∃ qual pm c ctv,H f=some (LamO f (lamFn qual e pm c ctv))∧H c=some (CodO c qual)
theorem LamAt.same {H H':Hp} {f:Addr} {e:Expr} (g:Same H H') (h:LamAt H f e):LamAt H' f e:=by
  obtain ⟨q,pm,c,ctv,h1,h2⟩:=h.ex
  exact ⟨q,pm,c,ctv,g _ _ h1,g _ _ h2⟩
def TbS (H:Hp) (T:Addr) (pos:Pos) (qual:Str):Prop:=H T=some (.tbl #[])∨∃ c,H T=some (.tbl #[rawInt pos.line,rawInt pos.col,.ref c])∧H c=some (CodO c qual)
theorem TbS.at {H:Hp} {T:Addr} {pos:Pos} {qual:Str} (h:TbS H T pos qual):∃ ps,H T=some (.tbl ps):=by
  rcases h with h | ⟨c,h,_⟩
  · exact ⟨_,h⟩
  · exact ⟨_,h⟩
theorem TbS.same {H H':Hp} {T:Addr} {pos:Pos} {qual:Str} (g:Same H H') (h:TbS H T pos qual):TbS H' T pos qual:=by
  rcases h with h | ⟨c,h,h2⟩
  · exact .inl (g _ _ h)
  · exact .inr ⟨c,g _ _ h,g _ _ h2⟩
theorem TbS.sameX {H H':Hp} {T U:Addr} {pos:Pos} {qual:Str} {ps:Array Value} (hU:H U=some (.tbl ps)) (ne:T≠U) (g:SameX U H H') (h:TbS H T pos qual):TbS H' T pos qual:=by
  rcases h with h | ⟨c,h,h2⟩
  · exact .inl (g _ _ ne h)
  · exact .inr ⟨c,g _ _ ne h,g _ _ (ne_of h2 hU (by intro z;cases z)) h2⟩
def BtAt (mg:Str→Option Value) (base:Heap):Prop:=∃ bm o,mg "__builtins__" = some (.ref bm)∧bm≠builtinsNs∧bm≠mainGlobals∧base.get? bm=some o∧o.cls=.type "module" ∧ o.dict=some builtinsNs∧o.data=.plain
def tLam (T:Addr) (qual:Str) (e:Expr):TE:=fun σ H Q=>TbS H T (lamPos e) qual∧∀ f H',SameX T H H'→H f=none→LamAt H' f e→TbS H' T (lamPos e) qual→Q (.ref f) H'
section
variable {X:Cx}
theorem ext_lam {P:Program} {w:World} {H:Hp} {h:Heap} {f:Addr} {fd:FuncData} (e:h.get? f=some { cls:=.type "function", data:=.func fd }):ObjOk P w H h f (LamO f fd):=⟨e,⟨_,e⟩,fun _ _ e1 k=>k _ e1⟩
theorem ext_cod {P:Program} {w:World} {H:Hp} {h:Heap} {c:Addr} {qual:Str} (e:h.CodeRec (.ref c) qual):ObjOk P w H h c (CodO c qual):=by
  refine ⟨e,?_,fun h1 h2 e1 k=>?_⟩
  · obtain ⟨c',oc,vs,tq,z,hoc,_⟩:=e
    cases z
    exact ⟨_,hoc⟩
  · obtain ⟨c',oc,vs,tq,z,hoc,r⟩:=e1
    cases z
    exact ⟨c,oc,vs,tq,rfl,k _ hoc,r⟩
theorem pe_lam {a:Arguments} {b:Expr} {sc:Scope} {pos:Pos} {c T:Addr} (hcode:X.env.code=.ref c) (hC:PySem.W.codeHdIn X.K c T=true) (hB:BtAt X.mg X.base) (hcl:closureFor sc X.env=pure []:=by rfl) (hdef:defaultsOf a X.env=([],[]):=by rfl) :
    PE X (.Lambda a b sc pos) (tLam T (X.env.qual ++ "<lambda>") (.Lambda a b sc pos)):=by
  intro pins s σ H Q I h
  obtain ⟨ht,q⟩:=h
  obtain ⟨ps0,hT⟩:=ht.at
  obtain ⟨bm,ob,b1,b2,b3,b4,b5,b6,b7⟩:=hB
  have hbT:bm≠T:=fun z=>by have:=(I.bs _ _ b4).2;rw [z,hT] at this;cases this
  have hg:s.heap.Ns mainGlobals X.mg:=I.mod.glob.keeps I.bk
  have hgT:mainGlobals≠T:=fun z=>by
    obtain ⟨o,es,ep,e,_⟩:=I.mod.glob
    have:=(I.bs _ _ e).2
    rw [z,hT] at this;cases this
  have hb:s.heap.BuiltinsAt X.mg T:=⟨bm,ob,b1,b2,b3,hbT,I.bk _ _ b4,b5,b6,b7⟩
  have hCd:PySem.W.CodeHd s.heap c T:=PySem.W.codeHd_of_K I.kIn hC
  have hLT:X.env.locals≠T:=fun z=>by have:=I.free;rw [z,hT] at this;cases this
  refine PySem.W.kla_eval hdef ?_
  rcases ht with h0 | ⟨c',h0,hc'⟩
  · have hP:s.heap.get? T=some (PySem.W.tabObj #[]):=I.hok T _ h0
    refine PySem.W.kla_makeFunction (mg:=X.mg) hcl I.ok.glob hg hcode hCd hP trivial rfl hgT hb fun c' ctv h' tk hx hge hlt hrec htb=>?_
    obtain ⟨qual,hqual⟩ : ∃ qual,qual=X.env.qual ++ "<lambda>" := ⟨_,rfl⟩
    rw [← hqual] at hrec ⊢
    have hHc:H c'=none:=I.hok.fresh hge
    have hHf:H h'.objs.size=none:=I.hok.fresh (Nat.le_of_lt (Nat.lt_of_le_of_lt hge hlt))
    have nTc:T≠c':=ne_of_none h0 hHc
    have nTf:T≠h'.objs.size:=ne_of_none h0 hHf
    have ncf:c'≠h'.objs.size:=Nat.ne_of_lt hlt
    obtain ⟨fd,hfd⟩ : ∃ fd:FuncData,fd=lamFn qual (.Lambda a b sc pos) ((X.mg "__name__").getD .none) c' ctv:=⟨_,rfl⟩
    have hob:PySem.W.kla_obj "<lambda>" qual a b sc [] ((X.mg "__name__").getD .none) c' ctv={ cls:=.type "function", data:=.func fd }:=by rw [hfd];rfl
    rw [hob]
    obtain ⟨ps,hps⟩ : ∃ ps:Array Value,ps=#[rawInt pos.line,rawInt pos.col,.ref c']:=⟨_,rfl⟩
    have htb':h'.get? T=some { cls:=.none,data:=.fields ps }:=by rw [hps];exact htb
    obtain ⟨H',hH'⟩ : ∃ H':Hp,H'=upd (upd (upd H T (.tbl ps)) c' (CodO c' qual)) h'.objs.size (LamO h'.objs.size fd):=⟨_,rfl⟩
    have eF:H' h'.objs.size=some (LamO h'.objs.size fd):=by rw [hH'];exact upd_same
    have eC:H' c'=some (CodO c' qual):=by rw [hH',upd_ne ncf];exact upd_same
    have eT:H' T=some (.tbl ps):=by rw [hH',upd_ne nTf,upd_ne nTc];exact upd_same
    have eO:∀ x,x≠T→x≠c'→x≠h'.objs.size→H' x=H x:=fun x n1 n2 n3=>by rw [hH',upd_ne n3,upd_ne n2,upd_ne n1]
    have eK:∀ x u,H x=some u→x≠T→H' x=some u:=fun x u e n1=>by rw [eO x n1 (ne_of_none e hHc) (ne_of_none e hHf)];exact e
    have hpush:∀ x o,h'.get? x=some o→(h'.push { cls:=.type "function", data:=.func fd }).get? x=some o:=fun x o e=>Heap.get?_push_of_some _ e
    have J:Inv X pins σ H' { s with heap:=h'.push { cls:=.type "function", data:=.func fd },toks:=tk }:=by
      refine I.step (g':=s.gens) (d':=s.drawn) (ch:=[]) (fun _ z=>nomatch z) (fun x o _ _ _ e n=>?_) (fun x o _ _ _ e n=>?_) (fun x o _ e n=>?_) (fun x o _ e=>?_) (fun x xs e=>?_) (fun x o u e=>?_) (fun x qs e=>?_) (fun m hn=>?_) (fun x o e=>?_) I.bare
      · exact hpush _ _ (hx _ _ (fun z=>by rw [z,hT] at n;cases n) e)
      · exact ⟨o.slots,hpush _ _ (hx _ _ (fun z=>by rw [z,hT] at n;cases n) e)⟩
      · have lx:=Heap.lt_size e
        rw [eO x (fun z=>by rw [z,hT] at n;cases n) (Nat.ne_of_lt (Nat.lt_of_lt_of_le lx hge)) (Nat.ne_of_lt (Nat.lt_trans (Nat.lt_of_lt_of_le lx hge) hlt))]
        exact n
      · by_cases z:x=T
        · exact ⟨_,hpush _ _ (z ▸ htb')⟩
        · exact ⟨o,hpush _ _ (hx _ _ z e)⟩
      · exact eK x _ e (ne_of e h0 (by intro z;cases z))
      · exact eK x _ e (ne_of e h0 (by intro z;cases z))
      · by_cases z:x=T
        · subst z
          rw [h0] at e
          cases e
          exact ⟨ps,by rw [eT];simp⟩
        · exact ⟨#[],by rw [eK x _ e z];simp⟩
      · exact (hn.extBut hx hLT).push _
      · by_cases z1:x=h'.objs.size
        · subst z1
          rw [eF] at e
          cases e
          exact ext_lam (Heap.get?_push_size _ rfl)
        by_cases z2:x=c'
        · subst z2
          rw [eC] at e
          cases e
          refine ext_cod ?_
          obtain ⟨c2,oc,vs,tq,z,hoc,r⟩:=hrec
          exact ⟨c2,oc,vs,tq,z,hpush _ _ hoc,r⟩
        by_cases z3:x=T
        · subst z3
          rw [eT] at e
          cases e
          exact hpush _ _ htb'
        rw [eO x z3 z2 z1] at e
        refine (I.hok x o e).stay (fun y u hy r=>?_) (fun y r=>?_) fun y xs r=>?_
        · refine hpush _ _ (hx _ _ (fun z=>?_) r)
          rcases hy with hy | hy
          · exact z3 (hy.symm.trans z)
          · rw [z,hT] at hy;cases hy
        · exact eK y _ r (ne_of r h0 (by intro z;cases z))
        · exact eK y _ r (ne_of r h0 (by intro z;cases z))
    refine ⟨.ref h'.objs.size,H',J,rfl,q h'.objs.size H' (fun x u n e=>eK x u e n) hHf ⟨qual,_,c',ctv,by rw [eF,hfd],eC⟩ ?_⟩
    refine .inr ⟨c',?_,by rw [← hqual];exact eC⟩
    rw [eT,hps];rfl
  · have hP:s.heap.get? T=some (PySem.W.tabObj #[rawInt pos.line,rawInt pos.col,.ref c']):=I.hok T _ h0
    have hf:codeAmong pos (#[rawInt pos.line,rawInt pos.col,Value.ref c']:Array Value).toList=some (.ref c'):=by
      show (if ((pos.line:Int) == (pos.line:Int) && (pos.col:Int) == (pos.col:Int))=true then some (Value.ref c') else _)=_
      simp
    refine PySem.W.kla_makeFunctionHit (mg:=X.mg) hcl I.ok.glob hg hcode hCd hP trivial hf hb fun ctv h' tk hk hsz=>?_
    obtain ⟨qual,hqual⟩ : ∃ qual,qual=X.env.qual ++ "<lambda>" := ⟨_,rfl⟩
    rw [← hqual]
    have hHf:H h'.objs.size=none:=I.hok.fresh hsz
    refine ⟨.ref h'.objs.size,upd H h'.objs.size (LamO h'.objs.size (lamFn qual (.Lambda a b sc pos) ((X.mg "__name__").getD .none) c' ctv)),I.laid (t':=tk) (fun x o e=>Heap.get?_push_of_some _ (hk _ _ e)) hsz (ext_lam (Heap.get?_push_size _ rfl)),rfl,?_⟩
    have g:=same_new hHf (LamO h'.objs.size (lamFn qual (.Lambda a b sc pos) ((X.mg "__name__").getD .none) c' ctv))
    refine q h'.objs.size _ (SameX.of g) hHf ⟨qual,_,c',ctv,upd_same,g _ _ (by rw [hqual];exact hc')⟩ (.inr ⟨c',g _ _ h0,g _ _ hc'⟩)
end
end L2
namespace L2
open PySem PySem.Spec PyProof.Rows
def CalV (P:Program) (w:World) (K:PySem.W.Frag) (mg:Str→Option Value) (base:Heap) (k:Nat) (e:Expr) (sp:Sp):Prop :=
  ∀ (f:Addr) (A:Around) (outer:List Env) (s:Shared) (H:Hp) (us:List Value) (vs:List V) (Q:VK) (E:XK),Room k A→Env0 P w K mg base A outer s H→LamAt H f e→Vals vs us→sp vs H Q E →
    codeAny (model P w) A (.call (.ref f) ⟨us,[]⟩) (CR CX0 outer P w H s Q E) s
theorem lam_run {P:Program} {w:World} {K:PySem.W.Frag} {mg:Str→Option Value} {base:Heap} {k:Nat} {e:Expr} {N ps:List Str} {sp:Sp} (S:FnScope N ps (lamScope e)) (len:∀ vs H Q E,sp vs H Q E→vs.length=ps.length)
    (hbind:∀ (qual:Str) (pm:Value) (c:Addr) (ctv:Value) (us:List Value),us.length=ps.length→bindArgs (lamFn qual e pm c ctv) ⟨us,[]⟩=pure (ps.zip us))
    (hbody:∀ (qual:Str) (f c:Addr) (A:Around) (outer:List Env) (s:Shared) (H:Hp) (vs:List V) (Q:VK) (E:XK),Room k (A.deeper (envOfC qual (lamScope e) s.heap.objs.size f (.ref c)))→sp vs H Q E →
      ∃ t,PE (cxOf CX0 P w K mg base N qual (lamScope e) f (.ref c) A outer s H E).nox (lamBody e) t∧t (start N vs) H Q):CalV P w K mg base (k + 1) e sp:=by
  intro f A outer s H us vs Q E hr e0 hL r hsp
  obtain ⟨qual,pm,c,ctv,hf,hc⟩:=hL.ex
  have hfo:s.heap.get? f=some { cls:=.type "function", data:=.func (lamFn qual e pm c ctv) }:=(e0.hok f _ hf).1
  have hrec:s.heap.CodeRec (.ref c) qual:=(e0.hok c _ hc).1
  have hl:=len _ _ _ _ hsp
  have hul:us.length=ps.length:=by rw [← r.length];exact hl
  have lim:s.heap.NoLimit:=e0.mod.nolimit.keeps fun b o e=>(e0.bs b o e).1
  have hkind:∀ y ∈ ps.zip us,(lamScope e).names.lookup y.1=some .local∨((lamScope e).names.lookup y.1=some .cell∧((cellsFrom (s.heap.objs.size + 1) (lamScope e).names []).lookup y.1).isSome=true):=fun ⟨n,v⟩ hy=>by
    rcases S.par n (List.of_mem_zip hy).1 with q | q
    · exact .inl q
    · exact .inr ⟨q,PySem.W.cellsFrom_some _ _ _ (.inl q)⟩
  refine PySem.W.kla_callFunE hr.depth hfo rfl S.co S.gen rfl hrec ?_
  rw [hbind qual pm c ctv us hul]
  refine wpAny_pure ?_
  refine wpAny_newFunctionEnv_cells S.kind hkind fun env he s1 x=>?_
  subst he
  refine ⟨lim.keeps x.toInCall.keep,PySem.W.kla_codeExpr ?_⟩
  obtain ⟨t,ht,hq⟩:=hbody qual f c A outer s H vs Q E (hr.deeper _) hsp
  have I:Inv (cxOf CX0 P w K mg base N qual (lamScope e) f (.ref c) A outer s H E) [] (start N vs) H s1:=inv_start S hr.hd e0 hl r x
  refine wpAny_mono (ht.nox [] s1 (start N vs) H _ I hq) (fun u s' hs=>?_) fun e s' hs=>hs
  obtain ⟨v,H',J,rv,q⟩:=hs
  exact ⟨v,H',J.os,J.bare,J.base,J.hok,rv,q⟩
def tCallV (i:Nat) (e:Expr) (sp:Sp) (t:TA):TE:=fun σ H Q=>∃ f,σ[i]?=some (some (.ref f))∧t σ H fun vs H1=>LamAt H1 f e∧sp vs H1 Q E0
section
variable {X:Cx}
theorem pe_callV {i:Nat} {x:Str} {e a:Expr} {as:List Expr} {t:TA} {sp:Sp} {k:Nat} {p pos:Pos} (C:CalV X.prog X.w X.K X.mg X.base k e sp) (hr:Room k X.A) (ha:PA X (a :: as) t) (hN:X.N[i]?=some x:=by rfl) (hv:Vis X.env.scope x:=by first | exact Or.inl rfl | exact Or.inr (Or.inl rfl) | exact Or.inr (Or.inr rfl))
    (hd:(x == ("__debug__" : Str))=false:=by decide) (hcd:(x == ("__classdict__" : Str))=false:=by decide) (he:starEach (a :: as) X.env=(false,eval a X.env) :: starEach as X.env:=by rfl) (hpl:(backTo pos (starEach as X.env)).any (·.1)=false:=by rfl) :
    PE X (.Call (.Name x p) (a :: as) [] pos) (tCallV i e sp t):=by
  intro pins s σ H Q I h
  obtain ⟨f,hs,h⟩:=h
  refine wpAny_Call_Name_kw (thn (pe_var (pos:=p) hN hv hd hcd pins s σ H (fun v H1=>v=.ref f∧H1=H) I ⟨.ref f,hs,rfl,rfl⟩) fun u s1 ⟨v,H1,I1,r1,ev,eH⟩=>?_)
  subst ev eH
  obtain rfl:u=Value.ref f:=r1
  have hw:wpAny (model X.prog X.w) X.A (spliced (backTo pos (starEach (a :: as) X.env))) (fun vs s₁=>(∃ fd,s₁.heap.get? f=some { cls:=.type "function", data:=.func fd })∧wpAny (model X.prog X.w) X.A (call (.ref f) ([] ++ vs)) (EP X pins σ Q) X.xe s₁) X.xe s1:=by
    refine thn (ha pos pins s1 σ H1 _ I1 h) fun us s2 ⟨vs,H2,I2,r2,hL,q2⟩=>⟨?_,?_⟩
    · obtain ⟨qual,pm,c,ctv,hf,hc⟩:=hL.ex
      exact ⟨_,(I2.hok f _ hf).1⟩
    · refine wpAny_call (codeAny_mono (C f X.A X.stack s2 H2 us vs Q E0 hr I2.env0 hL r2 q2) fun r s' hq=>?_)
      cases r with
      | error e=>exact hq.elim
      | ok fl =>
        cases fl with
        | ret u=>exact I2.after hq
        | next=>exact False.elim hq
        | brk=>exact False.elim hq
        | cont=>exact False.elim hq
  rw [he] at hw ⊢
  exact PySem.W.callWith_of (P:=fun h=>∃ fd,h.get? f=some { cls:=.type "function", data:=.func fd }) (by show ((false || (backTo pos (starEach as X.env)).any (·.1)) || false)=false;rw [hpl];rfl)
    (fun h ⟨fd,hf⟩=>⟨.frame,.inl rfl,(PySem.W.Looks.ld (part:=none) hf).andThen .now⟩) (PySem.Calls.evalArgs_plain hw)
end
section
variable {P:Program} {w:World} {K:PySem.W.Frag} {mg:Str→Option Value} {base:Heap}
theorem code_of {x:Str} {f c T:Addr} {oc:Value} {od:Option Addr} {fd:FuncData} {sl:Array (Option Value)} (hn:PySem.W.nsIn K mainGlobals x=some (some (.ref f))) (lk:K.lookup f=some ⟨oc,od,.func fd,sl⟩) (h:PySem.W.tabIn K x=some (c,T)):fd.code=.ref c:=by
  unfold PySem.W.tabIn at h
  rw [hn] at h
  simp only [lk] at h
  split at h
  · rename_i c2 hc
    split at h
    · split at h
      · cases h;exact hc
      · cases h
    · cases h
  · cases h
theorem Fun.okC {x qual:Str} {st:Stmt} {f c T:Addr} {fd:FuncData} {N ps:List Str} {k:Nat} {sp:Sp} (F:Fun K x qual st f fd) (hn:PySem.W.nsIn K mainGlobals x=some (some (.ref f))) (hT:PySem.W.tabIn K x=some (c,T)) (S:FnScope N ps (defScope st)) (len:∀ vs H Q E,sp vs H Q E→vs.length=ps.length)
    (hbody:∀ (A:Around) (outer:List Env) (s:Shared) (H:Hp) (vs:List V) (Q:VK) (E:XK),Room k (A.deeper (envOfC qual (defScope st) s.heap.objs.size f (.ref c)))→sp vs H Q E →
      ∃ t,PSs (cxOf CX0 P w K mg base N qual (defScope st) f (.ref c) A outer s H E).nox (defBody st) t∧t { nx:=fun _ H'=>Q .non H',rt:=Q } (start N vs) H):FnOk P w K mg base CX0 (k + 1) f fd ps sp:=by
  obtain ⟨oc,od,kV,doc,pm,an,cdv,ct,osl,rfl,lk,hcd⟩:=F.ex
  have e:cdv=.ref c:=code_of hn lk hT
  subst e
  refine fn_of lk hcd S len fun A outer s H vs Q E hr hsp=>?_
  obtain ⟨t,h,q⟩:=hbody A outer s H vs Q E hr hsp
  exact ⟨t,h.nox,q⟩
end
end L2
namespace L2
open PySem PySem.Spec PyProof.Rows
def ValO (p d:Addr):HO:=.ext fun h=>h.IsValuesView p d
def ItmO (p d:Addr):HO:=.ext fun h=>h.IsItemsView p d
section
variable {X:Cx}
theorem mt_values:MtR X "dict.values" (fun x vs H Q=>∃ (d:Addr) (kvs:List (Key × V)),x=.ref d∧vs=[]∧H d=some (.dK kvs)∧∀ p,H p=none→Q (.ref p) (upd H p (ValO p d))):=by
  intro pins s σ H x xs v us Q I rx rv h
  obtain ⟨d,kvs,rfl,rfl,hd,q⟩:=h
  cases rx
  cases rv
  obtain ⟨z,ne,vs,rel,dd⟩:=dk_of I.hok hd
  refine call_meetsIn PySem.F.slot_dict_values dd.typeIs PySem.F.entry_dict_values (PySem.F.args_dict_values_1 _) (meets_dict_values (mixKind X.prog X.w) d ne) ⟨⟨vs,dd⟩,?_⟩
  refine ⟨.ref s.heap.objs.size,_,I.laid (a:=s.heap.objs.size) (o:=ValO s.heap.objs.size d) (t':=s.toks) (fun b o e=>Heap.get?_push_of_some _ e) (Nat.le_refl _) ?_,rfl,q _ (I.hok.fresh (Nat.le_refl _))⟩
  refine ⟨⟨_,Heap.get?_push_size _ rfl,rfl,rfl⟩,⟨_,Heap.get?_push_size _ rfl⟩,fun h1 h2 ⟨o,e,c,dt⟩ k=>⟨o,k _ e,c,dt⟩⟩
theorem mt_items:MtR X "dict.items" (fun x vs H Q=>∃ (d:Addr) (kvs:List (Key × V)),x=.ref d∧vs=[]∧H d=some (.dK kvs)∧∀ p,H p=none→Q (.ref p) (upd H p (ItmO p d))):=by
  intro pins s σ H x xs v us Q I rx rv h
  obtain ⟨d,kvs,rfl,rfl,hd,q⟩:=h
  cases rx
  cases rv
  obtain ⟨z,ne,vs,rel,dd⟩:=dk_of I.hok hd
  refine call_meetsIn PySem.F.slot_dict_items dd.typeIs PySem.F.entry_dict_items (PySem.F.args_dict_items_1 _) (meets_dict_items (mixKind X.prog X.w) d ne) ⟨⟨vs,dd⟩,?_⟩
  refine ⟨.ref s.heap.objs.size,_,I.laid (a:=s.heap.objs.size) (o:=ItmO s.heap.objs.size d) (t':=s.toks) (fun b o e=>Heap.get?_push_of_some _ e) (Nat.le_refl _) ?_,rfl,q _ (I.hok.fresh (Nat.le_refl _))⟩
  refine ⟨⟨_,Heap.get?_push_size _ rfl,rfl,rfl⟩,⟨_,Heap.get?_push_size _ rfl⟩,fun h1 h2 ⟨o,e,c,dt⟩ k=>⟨o,k _ e,c,dt⟩⟩
end
section
variable {X:Cx} {pins:List (Addr × Obj)} {σ:St} {H:Hp} {s:Shared}
theorem Inv.freeze {d:Addr} {kvs:List (Key × V)} {ob:Obj} (I:Inv X pins σ H s) (hd:H d=some (.dK kvs)) (e:s.heap.get? d=some ob):Inv X pins σ (upd H d (.frz ob (.dK kvs))) s:=by
  have e1:∀ b u,H b=some u→u≠.dK kvs→upd H d (.frz ob (.dK kvs)) b=some u:=fun b u q n=>by rw [upd_ne (ne_of q hd n)];exact q
  have J:=I.step (h':=s.heap) (H':=upd H d (.frz ob (.dK kvs))) (g':=s.gens) (d':=s.drawn) (t':=s.toks) (ch:=[]) (fun _ z=>nomatch z) (fun b o _ _ _ q _=>q) (fun b o _ _ _ q _=>⟨o.slots,q⟩)
    (fun b o _ q n=>by rw [upd_ne (fun z=>by rw [z,hd] at n;cases n)];exact n) (fun b o _ q=>⟨o,q⟩) (fun b xs q=>e1 b _ q (by intro z;cases z)) (fun b o u q=>e1 b _ q (by intro z;cases z)) (fun b ps q=>⟨#[],by rw [e1 b _ q (by intro z;cases z)];simp⟩) (fun m hn=>hn)
    (fun b u q=>by
      by_cases hb:b=d
      · subst hb
        rw [upd_same] at q
        cases q
        exact ⟨e,(I.hok b _ hd).stay (fun c v _ r=>r) (fun c r=>e1 c _ r (by intro z;cases z)) fun c xs r=>e1 c _ r (by intro z;cases z)⟩
      · rw [upd_ne hb] at q
        exact (I.hok b u q).stay (fun c v _ r=>r) (fun c r=>e1 c _ r (by intro z;cases z)) fun c xs r=>e1 c _ r (by intro z;cases z)) I.bare
  exact J
theorem Inv.thaw {d:Addr} {kvs:List (Key × V)} {ob:Obj} (I:Inv X pins σ H s) (h0:∀ o u,X.H₀ d≠some (.frz o u)) (hd:H d=some (.frz ob (.dK kvs))):Inv X pins σ (upd H d (.dK kvs)) s:=by
  have e1:∀ b u,H b=some u→u≠.frz ob (.dK kvs)→upd H d (.dK kvs) b=some u:=fun b u q n=>by rw [upd_ne (ne_of q hd n)];exact q
  have nn:∀ b,H b=none→upd H d (.dK kvs) b=none:=fun b n=>by rw [upd_ne (fun z=>by rw [z,hd] at n;cases n)];exact n
  refine ⟨I.ok,I.os,I.bare,⟨I.base.keep,I.base.slot,fun b o q n hx=>nn b (I.base.free b o q n hx),I.base.there,fun b xs q=>e1 b _ (I.base.tups b xs q) (by intro z;cases z),fun b o u q=>?_,fun b ps q=>?_⟩,I.loc,I.cell,nn _ I.free,fun x c q=>nn _ (I.freeC x c q),fun p hp=>?_,fun b u q=>?_,I.len⟩
  · have:=I.base.frzs b o u q
    by_cases hb:b=d
    · subst hb
      exact absurd q (h0 o u)
    · rw [upd_ne hb];exact this
  · obtain ⟨more,e⟩:=I.base.tbls b ps q
    exact ⟨more,e1 b _ e (by intro z;cases z)⟩
  · obtain ⟨a1,a2,a3⟩:=I.pin p hp
    exact ⟨a1,nn _ a2,a3⟩
  · by_cases hb:b=d
    · subst hb
      rw [upd_same] at q
      cases q
      exact (I.hok b _ hd).2.stay (fun c v _ r=>r) (fun c r=>e1 c _ r (by intro z;cases z)) fun c xs r=>e1 c _ r (by intro z;cases z)
    · rw [upd_ne hb] at q
      exact (I.hok b u q).stay (fun c v _ r=>r) (fun c r=>e1 c _ r (by intro z;cases z)) fun c xs r=>e1 c _ r (by intro z;cases z)
end
def Melt (d:Addr) (kvs:List (Key × V)) (Q:Hp→Prop):Hp→Prop:=fun H=>(∃ o,H d=some (.frz o (.dK kvs)))∧Q (upd H d (.dK kvs))
def sMelt (t:TS):TS:=fun D σ H=>∃ d kvs,H d=some (.dK kvs)∧t { nx:=fun σ'=>Melt d kvs (D.nx σ'),ct:=fun σ'=>Melt d kvs (D.ct σ'),bk:=fun σ'=>Melt d kvs (D.bk σ'),rt:=fun v=>Melt d kvs (D.rt v) } σ H
section
variable {X:Cx}
theorem ps_melt {st:Stmt} {t:TS} (h:PS X st t):PS X st (sMelt t):=by
  intro pins s σ H D I hw
  obtain ⟨d,kvs,hd,hw⟩:=hw
  have h0:∀ o u,X.H₀ d≠some (.frz o u):=fun o u q=>by
    have:=I.base.frzs d o u q
    rw [hd] at this;cases this
  refine wpAny_mono (h pins s σ H _ I hw) (fun f s' hs=>?_) fun _ _ z=>z
  cases f with
  | next=>obtain ⟨σ',H',J,⟨o,ho⟩,q⟩:=hs;exact ⟨σ',_,J.thaw h0 ho,q⟩
  | cont=>obtain ⟨σ',H',J,⟨o,ho⟩,q⟩:=hs;exact ⟨σ',_,J.thaw h0 ho,q⟩
  | brk=>obtain ⟨σ',H',J,⟨o,ho⟩,q⟩:=hs;exact ⟨σ',_,J.thaw h0 ho,q⟩
  | ret u=>obtain ⟨v,σ',H',J,rv,⟨o,ho⟩,q⟩:=hs;exact ⟨v,σ',_,J.thaw h0 ho,rv,q⟩
end
def Itdv (d:Addr) (o:Obj) (kvs:List (Key × V)):It :=
  ⟨fun i H=>H d=some (.frz o (.dK kvs))∧i < kvs.length,fun i H x H'=>H'=H∧∃ k,kvs[i]?=some (k,x),fun i H=>H d=some (.frz o (.dK kvs))∧kvs.length≤i⟩
def Itdi (d:Addr) (o:Obj) (kvs:List (Key × V)):It :=
  ⟨fun i H=>H d=some (.frz o (.dK kvs))∧i < kvs.length,fun i H x H'=>∃ p k v,H p=none∧x=.ref p∧H'=upd H p (.tup [kV k,v])∧kvs[i]?=some (k,v),fun i H=>H d=some (.frz o (.dK kvs))∧kvs.length≤i⟩
theorem frz_dict {P:Program} {w:World} {H:Hp} {h:Heap} {d:Addr} {o:Obj} {kvs:List (Key × V)} {es:Array DictEntry} {ep:Nat} (x:HOk P w H h) (hd:H d=some (.frz o (.dK kvs))) (he:o.data=.dict es ep):h.get? d=some o∧∃ vs,KV kvs vs∧h.DictAt (mixKind P w) d vs ep:=by
  obtain ⟨e,z,ne,vs,rel,o2,es2,ep2,e2,ex,dt,r⟩:=x d _ hd
  refine ⟨e,vs,rel,?_⟩
  rw [e] at e2
  cases e2
  rw [he] at dt
  cases dt
  exact ⟨o,es,e,ex,he,r⟩
theorem KV.at {kvs:List (Key × V)} {vs:List (Key × Value)} (r:KV kvs vs) {i:Nat} {k:Key} {v:V} (e:kvs[i]?=some (k,v)):∃ u,vs[i]?=some (k,u)∧RelV v u:=by
  induction r generalizing i with
  | nil=>simp at e
  | @cons p q _ _ h _ ih =>
    cases i with
    | zero =>
      simp at e
      subst e
      obtain ⟨k2,u⟩:=q
      obtain ⟨h1,h2⟩:=h
      simp only at h1 h2
      subst h1
      exact ⟨u,rfl,h2⟩
    | succ i=>exact ih (by simpa using e)
theorem turn_dvals {P:Program} {w:World} {K:PySem.W.Frag} {tg:Expr} {d:Addr} {o:Obj} {es:Array DictEntry} {ep:Nat} (he:o.data=.dict es ep) (kvs:List (Key × V)) (it:Addr):Turn P w K tg (Itdv d o kvs) [it] it (fun i h=>h.IsValIter it d i kvs.length ep) where
  mem:=by simp
  obj:=fun i h st b hb=>by
    have e:b=it:=by simpa using hb
    subst e
    obtain ⟨ob,e,c,dt⟩:=st
    exact ⟨ob,e,fun v z=>by rw [dt] at z;cases z⟩
  keep:=fun i h h' st k=>by
    obtain ⟨ob,e,r⟩:=st
    exact ⟨ob,k it (by simp) ob e,r⟩
  item:=by
    intro X hP hw hK hc i pins s σ H E I hf st hg
    subst hP hw hK
    obtain ⟨hd,hi⟩:=hg
    obtain ⟨_,vs,rel,D⟩:=frz_dict I.hok hd he
    have ek:kvs[i]?=some (kvs[i].1,kvs[i].2):=List.getElem?_eq_getElem hi
    obtain ⟨u,hu,ru⟩:=KV.at rel ek
    obtain ⟨f0,f1,f2,f3,f4,f5⟩:=hf it (by simp)
    rw [rel.length] at st
    refine wpAny_pyNext_values_item st D hu fun h' st' sb=>?_
    have I1:Inv X pins σ H { s with heap:=h' }:=I.turned (t':=s.toks) (fun b o hb e=>(sb.2 b hb).trans e) f0 f1 f3 f4 f5
    obtain ⟨ob,e,c,dt⟩:=id st'
    rw [← rel.length] at st'
    exact ⟨u,rfl,go_of (s:={ s with heap:=h' }) e c dt (by decide) ⟨kvs[i].2,H,I1,ru,⟨rfl,_,ek⟩,st',fun b hb=>(hf b hb).1⟩⟩
  done:=by
    intro X hP hw hK hc i pins s σ H E I hf st hg
    subst hP hw hK
    obtain ⟨hd,hi⟩:=hg
    obtain ⟨_,vs,rel,D⟩:=frz_dict I.hok hd he
    obtain ⟨f0,f1,f2,f3,f4,f5⟩:=hf it (by simp)
    rw [rel.length] at st
    exact wpAny_pyNext_values_end (I.ok.hd hc) st D (List.getElem?_eq_none (by rw [← rel.length];exact hi)) fun h' eb=>⟨rfl,I.turned (t':=s.toks) (fun b o hb e=>eb b o hb e) f0 f1 f3 f4 f5⟩
  self:=fun A i s Q E st h=>wpAny_pyIter_valiter st h
theorem entry_dii:entryFor table "dict_itemiterator.__iter__" = some Builtin.«dict_keyiterator.__iter__» :=
  entryFor_alias (id':="dict_keyiterator.__iter__") (by kernel_rfl) (by first | rfl | decide +kernel | (unfold String.splitOn;simp +decide [String.splitOnAux])) (by decide +kernel) (by kernel_rfl)
theorem turn_ditems {P:Program} {w:World} {K:PySem.W.Frag} {elts:List Expr} {k1:Nat} {pos:Pos} {d:Addr} {o:Obj} {es:Array DictEntry} {ep:Nat} (he:o.data=.dict es ep) (kvs:List (Key × V)) (it:Addr):Turn P w K (.Tuple elts k1 pos) (Itdi d o kvs) [it] it (fun i h=>∃ ok ov,IsItemIter h it d i kvs.length ep ok ov) where
  mem:=by simp
  obj:=fun i h st b hb=>by
    have e:b=it:=by simpa using hb
    subst e
    obtain ⟨ok,ov,e⟩:=st
    exact ⟨_,e,fun v z=>by cases z⟩
  keep:=fun i h h' st k=>by
    obtain ⟨ok,ov,e⟩:=st
    exact ⟨ok,ov,k it (by simp) _ e⟩
  item:=by
    intro X hP hw hK hc i pins s σ H E I hf st hg
    subst hP hw hK
    obtain ⟨hd,hi⟩:=hg
    obtain ⟨ok,ov,st⟩:=st
    obtain ⟨_,vs,rel,D⟩:=frz_dict I.hok hd he
    have ek:kvs[i]?=some (kvs[i].1,kvs[i].2):=List.getElem?_eq_getElem hi
    obtain ⟨u,hu,ru⟩:=KV.at rel ek
    rw [rel.length] at st
    refine wpAny_pyNext_items_item st D hu fun key h' hkey ho ht hsz hk=>?_
    refine ⟨.ref s.heap.objs.size,rfl,wpAny_letOwnedTupleGo_items (s:={ s with heap:=h' }) ho fun h'' he'' hs'=>?_⟩
    have hse:s.heap.objs.size≠it:=Nat.ne_of_gt (Heap.lt_size st)
    have rk:RelV (kV kvs[i].1) key:=by
      rcases keyIs_shape hkey with ⟨j,t,e1,e2⟩ | ⟨x,t,e1,e2⟩
      · rw [e1];exact ⟨t,e2⟩
      · rw [e1];exact ⟨t,e2⟩
    have I2:Inv X pins σ (upd H s.heap.objs.size (.tup [kV kvs[i].1,kvs[i].2])) { s with heap:=h'' }:=by
      refine I.turnedNew (t':=s.toks) (ch:=[it]) (fun c o hc g=>?_) hf (Nat.le_refl _) ⟨by show 2≤sizeLine;decide,[key,u],.cons rk (.cons ru .nil),⟨_,(hs'.2 _ hse).trans ht,rfl,_,rfl⟩⟩
      have hc':c≠it:=fun z=>hc (by simp [z])
      exact (hs'.2 c hc').trans (hk c o hc' g)
    have hfr:∀ c ∈ [it],upd H s.heap.objs.size (.tup [kV kvs[i].1,kvs[i].2]) c=none:=fun c hc=>by
      have e:c=it:=by simpa using hc
      subst e
      rw [upd_ne (Ne.symm hse)];exact (hf c hc).1
    rw [← rel.length] at he''
    exact ⟨.ref s.heap.objs.size,_,I2,rfl,⟨s.heap.objs.size,_,_,I.fresh,rfl,rfl,ek⟩,⟨_,_,he''⟩,hfr⟩
  done:=by
    intro X hP hw hK hc i pins s σ H E I hf st hg
    subst hP hw hK
    obtain ⟨hd,hi⟩:=hg
    obtain ⟨ok,ov,st⟩:=st
    obtain ⟨_,vs,rel,D⟩:=frz_dict I.hok hd he
    obtain ⟨f0,f1,f2,f3,f4,f5⟩:=hf it (by simp)
    rw [rel.length] at st
    exact wpAny_pyNext_items_end (I.ok.hd hc) st D (List.getElem?_eq_none (by rw [← rel.length];exact hi)) fun h' eb=>⟨rfl,I.turned (t':=s.toks) (fun b o hb e=>eb b o hb e) f0 f1 f3 f4 f5⟩
  self:=fun A i s Q E st h=>by
    obtain ⟨ok,ov,st⟩:=st
    have hT:s.TypeIs (.ref it) "dict_itemiterator" := ⟨_,st,rfl⟩
    refine wpAny_pyIter_slot hT PySem.F.slot_dict_itemiterator_iter (wpAny_call_entry PySem.F.slot_dict_itemiterator_iter hT entry_dii ?_ (PySem.F.args_dict_itemiterator_iter_1 _))
    exact wpAny_pure ⟨_,rfl, "dict_itemiterator", _,hT,PySem.F.slot_dict_itemiterator_next.lookup,h⟩
section
variable {X:Cx} {tg e:Expr} {te:TE}
def iDV (te:TE):TI:=fun σ H R=>te σ H fun x H1=>∃ p d kvs,x=.ref p∧H1 p=some (ValO p d)∧H1 d=some (.dK kvs)∧∀ o,R (Itdv d o kvs) (upd H1 d (.frz o (.dK kvs)))
def iDI (te:TE):TI:=fun σ H R=>te σ H fun x H1=>∃ p d kvs,x=.ref p∧H1 p=some (ItmO p d)∧H1 d=some (.dK kvs)∧∀ o,R (Itdi d o kvs) (upd H1 d (.frz o (.dK kvs)))
theorem pi_dvals (he:PE X e te):PI X tg e (iDV te):=by
  intro pins s σ H R I h
  refine thn (he pins s σ H _ I h) fun v s1 ⟨x,H1,I1,r1,p,d,kvs,ex,hp,hd,q⟩=>?_
  subst ex
  obtain rfl:v=Value.ref p:=r1
  obtain ⟨z,ne,vs,rel,o,es,ep,ho,ext,dt,rest⟩:=dk_of I1.hok hd
  have hv:s1.heap.IsValuesView p d:=(I1.hok p _ hp).1
  refine wpAny_pyIter_values (knd:=mixKind X.prog X.w) hv ⟨o,es,ho,ext,dt,rest⟩ ?_
  have I2:=I1.freeze hd ho
  refine ⟨s1.heap.objs.size,[s1.heap.objs.size],_,_,_,rfl,I2.kept (t':=s1.toks) fun b o e=>Heap.get?_push_of_some _ e,turn_dvals dt kvs _,?_,fun b hb=>?_,q o⟩
  · rw [rel.length];exact ⟨_,Heap.get?_push_size _ rfl,rfl,rfl⟩
  · have e:b=s1.heap.objs.size:=by simpa using hb
    subst e
    exact I2.fpOk (Nat.le_refl _) (I2.hok.fresh (Nat.le_refl _))
theorem pi_ditems {elts:List Expr} {k1:Nat} {tpos:Pos} (he:PE X e te):PI X (.Tuple elts k1 tpos) e (iDI te):=by
  intro pins s σ H R I h
  refine thn (he pins s σ H _ I h) fun v s1 ⟨x,H1,I1,r1,p,d,kvs,ex,hp,hd,q⟩=>?_
  subst ex
  obtain rfl:v=Value.ref p:=r1
  obtain ⟨z,ne,vs,rel,o,es,ep,ho,ext,dt,rest⟩:=dk_of I1.hok hd
  have hv:s1.heap.IsItemsView p d:=(I1.hok p _ hp).1
  refine wpAny_pyIter_items (knd:=mixKind X.prog X.w) hv ⟨o,es,ho,ext,dt,rest⟩ ?_
  have I2:=I1.freeze hd ho
  refine ⟨s1.heap.objs.size,[s1.heap.objs.size],_,_,_,rfl,I2.kept (t':=s1.toks) fun b o e=>Heap.get?_push_of_some _ e,turn_ditems dt kvs _,?_,fun b hb=>?_,q o⟩
  · rw [rel.length];exact ⟨_,_,Heap.get?_push_size _ rfl⟩
  · have e:b=s1.heap.objs.size:=by simpa using hb
    subst e
    exact I2.fpOk (Nat.le_refl _) (I2.hok.fresh (Nat.le_refl _))
end
theorem for_dvals {d:Addr} {o:Obj} {kvs:List (Key × V)} {g:TG} {tb:TS} {D:Ends} {σ:St} {H:Hp} (Pv:Nat→St→Hp→Prop) (h0:Pv 0 σ H) (hl:∀ i σ H,i≤kvs.length→Pv i σ H→H d=some (.frz o (.dK kvs)))
    (hs:∀ i k x σ H,kvs[i]?=some (k,x)→Pv i σ H→g x σ H fun σ2 H2=>tb { D with nx:=Pv (i + 1),ct:=Pv (i + 1),bk:=D.nx } σ2 H2) (hd:∀ σ H,Pv kvs.length σ H→D.nx σ H) :
    ∃ W:Nat→Nat→St→Hp→Prop,(∃ m,W 0 m σ H)∧∀ i m σ H,W i m σ H →
      ((Itdv d o kvs).stop i H∧D.nx σ H)∨((Itdv d o kvs).go i H∧∃ N:St→Hp→Prop,(∀ σ' H',N σ' H'→∃ m',m' < m∧W (i + 1) m' σ' H')∧∀ x H',(Itdv d o kvs).yld i H x H'→g x σ H' fun σ2 H2=>tb { D with nx:=N,ct:=N,bk:=D.nx } σ2 H2):=by
  refine ⟨fun i m σ H=>m=kvs.length - i∧i≤kvs.length∧Pv i σ H,⟨kvs.length,by simp,Nat.zero_le _,h0⟩,?_⟩
  rintro i m σ H ⟨rfl,hi,p⟩
  have q:=hl i σ H hi p
  by_cases hlt:i < kvs.length
  · refine .inr ⟨⟨q,hlt⟩,Pv (i + 1),fun σ' H' p'=>⟨kvs.length - (i + 1),by omega,rfl,hlt,p'⟩,fun x H' y=>?_⟩
    obtain ⟨e,k,y⟩:=y
    subst e
    exact hs i k x σ _ y p
  · have e:i=kvs.length:=by omega
    subst e
    exact .inl ⟨⟨q,Nat.le_refl _⟩,hd σ H p⟩
end L2
namespace L2
open PySem PySem.Spec PyProof.Rows
theorem pairs_ofK {X:Cx} {pins:List (Addr × Obj)} {σ:St} {H:Hp} {s:Shared} (I:Inv X pins σ H s):∀ ts:List (Addr × Key × V),(∀ t ∈ ts,SqT X.K H t.1 [kV t.2.1,t.2.2]) →
    ∃ ps:List (Key × Value),KV (ts.map fun t=>(t.2.1,t.2.2)) ps∧∀ (j:Nat) (q:Key × Value),ps[j]?=some q→∃ p u,(ts.map fun t=>Value.ref t.1)[j]?=some (.ref p)∧(mixKind X.prog X.w).is q.1 u=true∧s.heap.IsTuple p #[u,q.2]
  | [],_=>⟨[],.nil,fun j q h=>by simp at h⟩
  | t :: r,h=>by
    obtain ⟨ps,h1,h2⟩:=pairs_ofK I r fun u hu=>h u (List.mem_cons_of_mem _ hu)
    obtain ⟨its,rv,p,_⟩:=I.tuple (h t List.mem_cons_self)
    obtain ⟨u,v,rfl,ru,rv'⟩:=rv.two
    refine ⟨(t.2.1,v) :: ps,.cons ⟨rfl,rv'⟩ h1,fun j q hj=>?_⟩
    cases j with
    | zero =>
      have:q=(t.2.1,v):=by simpa using hj.symm
      subst this
      exact ⟨t.1,u,rfl,kV_is (k:=t.2.1) ru,p⟩
    | succ j =>
      obtain ⟨p',u',e1,e2,e3⟩:=h2 j q (by simpa using hj)
      exact ⟨p',u',by simpa using e1,e2,e3⟩
section
variable {X:Cx}
theorem call_dictK (hc:X.calm=true):CallR X (.type "dict") (fun xs H Q=>∃ (l:Addr) (ts:List (Addr × Key × V)),xs=[.ref l]∧SqL X.K H l (ts.map fun t=>V.ref t.1)∧(∀ t ∈ ts,SqT X.K H t.1 [kV t.2.1,t.2.2])∧(ts.map fun t=>t.2.1).Nodup∧ts.length≤1000 ∧
    ∀ d,H d=none→Q (.ref d) (upd H d (.dK (ts.map fun t=>(t.2.1,t.2.2))))):=by
  intro pins s σ H xs us Q I r h
  obtain ⟨l,ts,rfl,hl,ht,hnd,hz,q⟩:=h
  cases r with
  | cons r rr =>
    cases rr
    obtain rfl:_=Value.ref l:=r
    obtain ⟨its,rv,⟨o,n,e,c,dn,dt⟩,_⟩:=I.list hl
    obtain rfl:=vals_mapF rv
    obtain ⟨ps,hkv,hps⟩:=pairs_ofK I ts ht
    have hlen:ps.length=ts.length:=by have:=hkv.length;rw [List.length_map] at this;exact this.symm
    have hz1:ps.length≤sizeLine:=by rw [hlen,sizeLine_eq];omega
    refine dict_pairs (I.ok.hd hc) I.big e c dn dt hz1 (by rw [List.size_toArray,List.length_map];exact hlen) (fun j q hq=>by simpa using hps j q hq) fun h' tk hD hk=>?_
    have hk1:((([]:List (Key × Value)) ++ ps).map (·.1)).Nodup:=by
      rw [List.nil_append,KV.keys' hkv,List.map_map]
      exact hnd
    rw [storeAll_new ps [] hk1,List.nil_append] at hD
    have hfr:=I.hok.fresh (Nat.le_refl s.heap.objs.size)
    refine ⟨.ref s.heap.objs.size,_,I.laid (a:=s.heap.objs.size) (o:=.dK (ts.map fun t=>(t.2.1,t.2.2))) (t':=tk) hk (Nat.le_refl _) (dk_new (by rw [List.length_map,sizeLine_eq];omega) (beq_eq_false_iff_ne.mpr (Ne.symm (Nat.ne_of_lt I.big))) hkv hD),rfl,q _ hfr⟩
end
theorem c2_ditems {d acc:Addr} {K:PySem.W.Frag} {o:Obj} {kvs:List (Key × V)} {tt:TT} {te:TE} {cs:St} {H1:Hp} {Q:Hp→Prop} (Pv:Nat→List V→Hp→Prop) (h0:Pv 0 [] (upd H1 acc (.lst []))) (hl:∀ i ys H,i≤kvs.length→Pv i ys H→H d=some (.frz o (.dK kvs)))
    (hs:∀ i k v p ys H,i < kvs.length→kvs[i]?=some (k,v)→H p=none→Pv i ys H→tt (some (kV k) :: some v :: cs) (upd H p (.tup [kV k,v])) (CKon kvs.length Pv acc i te (some (kV k) :: some v :: cs))) (hd:∀ ys H,Pv kvs.length ys H→Q H):CGoal (Itdi d o kvs) 2 cs (gTup K 2 (gCons (gName 0) (gCons (gName 1) gNil))) tt te H1 acc Q:=by
  refine compG_drive Pv h0 (fun ys H p=>⟨⟨hl _ _ _ (Nat.le_refl _) p,Nat.le_refl _⟩,hd ys H p⟩) fun i ys H hi p=>⟨⟨hl _ _ _ (Nat.le_of_lt hi) p,hi⟩,?_⟩
  rintro x H3 ⟨p',k,v,hp,rfl,rfl,e⟩ as has
  obtain ⟨a0,a1,rfl⟩:=len_two has
  exact ⟨p',[kV k,v],rfl,SqT.of upd_same,rfl,kV k,[v],rfl,v,[],rfl,rfl,⟨[some (kV k),some v],rfl,rfl⟩,hs i k v p' ys H hi e hp p⟩
end L2
namespace L2
open PySem PySem.Spec PyProof.Rows
section
variable {prog:Program} {w:World} {A:Around} {E:Value→Shared→Prop} {s:Shared}
end
section
variable {X:Cx} {e:Expr} {te:TE} {p pos p2 pos2:Pos}
theorem call_sumG (hc:X.calm=true):CallR X (.builtin "sum") (fun xs H Q=>∃ (l:Addr) (ns:List Int),xs=[.ref l]∧SqL X.K H l (ns.map V.int)∧Q (.int ns.sum) H):=by
  intro pins s σ H xs us Q I r h
  obtain ⟨l,ns,rfl,hl,q⟩:=h
  cases r with
  | cons r rr =>
    cases rr
    obtain rfl:_=Value.ref l:=r
    obtain ⟨its,rv,p,_⟩:=I.list hl
    obtain ⟨ys,rfl,e2⟩:=vals_items rv
    have hL:s.heap.IsList l (intItems ys.toArray):=by rw [items_arr];exact p.isList
    refine sum_intListG (I.ok.hd hc) hL fun h' tk t' hk=>⟨.int ns.sum,H,I.kept (t':=tk) hk,⟨t',?_⟩,q⟩
    rw [pre_sum,e2,List.take_of_length_le]
    rw [← e2];simp
end
end L2
namespace K26
open PySem L2 TM TT K9 K11
section
variable {α:Type}
mutual
def fillT (op:Lab→List α→α) (cv:Int→Int→α):Tm→α
  | .node (.call m b) _ _=>cv m b
  | .node (.put n k a) _ bs=>op (.put n k a) (fillTs op cv bs)
def fillTs (op:Lab→List α→α) (cv:Int→Int→α):List Tm→List α
  | []=>[]
  | t :: r=>fillT op cv t :: fillTs op cv r
end
theorem fillTs_map (op:Lab→List α→α) (cv:Int→Int→α):∀ ts:List Tm,fillTs op cv ts=ts.map (fillT op cv)
  | []=>by simp [fillTs]
  | t :: r=>by simp only [fillTs,List.map_cons,fillTs_map op cv r]
mutual
theorem fill_congr {op:Lab→List α→α} {cv cv':Int→Int→α}:∀ t:Tm,(∀ c ∈ cls t,cv c.1 c.2=cv' c.1 c.2)→fillT op cv t=fillT op cv' t
  | .node (.call m b) _ bs,h=>by
    simp only [fillT]
    exact h (m,b) (by simp [cls,lcl])
  | .node (.put n k a) _ bs,h=>by
    simp only [fillT]
    rw [fills_congr bs fun c hc=>h c (by simp [cls,lcl];exact hc)]
theorem fills_congr {op:Lab→List α→α} {cv cv':Int→Int→α}:∀ ts:List Tm,(∀ c ∈ clss ts,cv c.1 c.2=cv' c.1 c.2)→fillTs op cv ts=fillTs op cv' ts
  | [],_=>by simp [fillTs]
  | t :: r,h=>by
    simp only [fillTs]
    rw [fill_congr t fun c hc=>h c (by simp only [clss];exact List.mem_append_left _ hc),fills_congr r fun c hc=>h c (by simp only [clss];exact List.mem_append_right _ hc)]
end
mutual
def outT (op:Lab→Int→List α→α) (d:α) (ks:List KdT) (ms:List Md):Tree Str→Int→α
  | .node n mk bs=>fun m=>match ms[m.toNat]? with
    | none=>d
    | some md=>match ruleK ks md n with
      | none=>d
      | some u=>fillT (fun l xs=>op l mk xs) (fun m' b=>((outTs op d ks ms bs)[b.toNat]?).elim d fun g=>g m') u
def outTs (op:Lab→Int→List α→α) (d:α) (ks:List KdT) (ms:List Md):List (Tree Str)→List (Int→α)
  | []=>[]
  | t :: r=>outT op d ks ms t :: outTs op d ks ms r
end
theorem outTs_map (op:Lab→Int→List α→α) (d:α) (ks:List KdT) (ms:List Md):∀ ts:List (Tree Str),outTs op d ks ms ts=ts.map (outT op d ks ms)
  | []=>by simp [outTs]
  | t :: r=>by simp only [outTs,List.map_cons,outTs_map op d ks ms r]
def valT (op:Lab→Int→List α→α) (d:α) (T:Tu) (u:Tm) (r:Tree Str):α:=fillT (fun l xs=>op l (mkT r) xs) (fun m b=>(r.bs[b.toNat]?).elim d fun c=>outT op d T.ks T.ms c m) u
theorem outT_rule {op:Lab→Int→List α→α} {d:α} {T:Tu} {t:Tree Str} {m:Int} {md:Md} {u:Tm} (h1:T.ms[m.toNat]?=some md) (h2:ruleK T.ks md (nmT t)=some u):outT op d T.ks T.ms t m=valT op d T u t:=by
  cases t with
  | node n mk bs =>
    have h2':ruleK T.ks md n=some u:=h2
    simp only [outT,h1,h2',outTs_map]
    unfold valT
    congr 1
    funext m' b
    rw [List.getElem?_map]
    show (Option.map (outT op d T.ks T.ms) bs[b.toNat]?).elim d (fun g=>g m')=(bs[b.toNat]?).elim d fun c=>outT op d T.ks T.ms c m'
    cases bs[b.toNat]? <;> rfl
end
theorem St.call {T:Tu} (ok:TuOk T) {u:Tm} {r:Tree Str} (h:St T (u,r)) {m b:Int} (hc:(m,b) ∈ cls u) :
    ∃ c md v,0≤b∧0≤m∧r.bs[b.toNat]?=some c∧T.ms[m.toNat]?=some md∧ruleK T.ks md (nmT c)=some v∧v ∈ md.2∧St T (v,c):=by
  obtain ⟨kinds,hf,hl,hT⟩:=h
  have h1:St T (leaf m b,r):=by
    refine ⟨kinds,?_,hl,hT⟩
    unfold fitT at hf ⊢
    simp only [leaf,cls,lcl,clss,List.append_nil,List.all_cons,List.all_nil,Bool.and_true]
    exact List.all_eq_true.mp hf _ hc
  obtain ⟨c,md,v,b0,m0,e1,e2,e3,e4,_,e5⟩:=h1.next ok (m:=m) (b:=b) rfl
  exact ⟨c,md,v,b0,m0,e1,e2,e3,e4,e5⟩
def Rep {α:Type} (K:PySem.W.Frag) (R:Hp→V→α→Prop):Prop:=∀ (H H':Hp) (v:V) (a:α),(∀ x xs,SqT K H x xs→SqT K H' x xs)→R H v a→R H' v a
inductive RAll {α:Type} (R:Hp→V→α→Prop) (H:Hp):List V→List α→Prop where
  | nil:RAll R H [] []
  | cons {v:V} {a:α} {vs:List V} {as:List α}:R H v a→RAll R H vs as→RAll R H (v :: vs) (a :: as)
theorem RAll.append {α:Type} {R:Hp→V→α→Prop} {H:Hp}:∀ {vs ws:List V} {as bs:List α},RAll R H vs as→RAll R H ws bs→RAll R H (vs ++ ws) (as ++ bs)
  | _,_,_,_,.nil,h=>h
  | _,_,_,_,.cons a t,h=>.cons a (RAll.append t h)
theorem RAll.imp {α:Type} {R:Hp→V→α→Prop} {H H':Hp} (k:∀ {v a},R H v a→R H' v a):∀ {vs:List V} {as:List α},RAll R H vs as→RAll R H' vs as
  | _,_,.nil=>.nil
  | _,_,.cons a t=>.cons (k a) (RAll.imp k t)
theorem Rd.mk {H H':Hp} {d:Addr} {u:HO} (g:Same H H') (h:Rd H d u):Rd H' d u:=by
  rcases h with h | ⟨o,h⟩
  · exact .inl (g _ _ h)
  · exact .inr ⟨o,g _ _ h⟩
def BelAt {α:Type} (R:Hp→V→α→Prop) (H:Hp) (ds:List Addr) (cv:Int→Int→α) (cs:List (Int × Int)):Prop:=∀ c ∈ cs,0≤c.2∧∃ d kvs v,ds[c.2.toNat]?=some d∧Rd H d (.dK kvs)∧valV kvs (Sum.inl c.1:Key)=some v∧R H v (cv c.1 c.2)
theorem BelAt.same {α:Type} {K:PySem.W.Frag} {R:Hp→V→α→Prop} (hR:Rep K R) {H H':Hp} {ds:List Addr} {cv:Int→Int→α} {cs:List (Int × Int)} (g:Same H H') (h:BelAt R H ds cv cs):BelAt R H' ds cv cs:=fun c hc=>by
  obtain ⟨h0,d,kvs,v,h1,h2,h3,h4⟩:=h c hc
  exact ⟨h0,d,kvs,v,h1,Rd.mk g h2,h3,hR _ _ _ _ (fun _ _=>g.seqT) h4⟩
theorem BelAt.sub {α:Type} {R:Hp→V→α→Prop} {H:Hp} {ds:List Addr} {cv:Int→Int→α} {cs cs':List (Int × Int)} (h:BelAt R H ds cv cs) (k:∀ c ∈ cs',c ∈ cs):BelAt R H ds cv cs':=fun c hc=>h c (k c hc)
theorem mem_clss' {c:Int × Int} {t:Tm}:∀ {ts:List Tm},t ∈ ts→c ∈ cls t→c ∈ clss ts
  | _ :: _,h,hc=>by
    simp only [clss]
    rcases List.mem_cons.mp h with rfl | h
    · exact List.mem_append_left _ hc
    · exact List.mem_append_right _ (mem_clss' h hc)
theorem szs_len:∀ ts:List Tm,ts.length≤szs ts
  | []=>by simp [szs]
  | t :: r=>by
    have h1:=szs_len r
    have h2:=sz_bs t
    simp only [szs,List.length_cons];omega
def pr (c:Int × Int):List Int:=[c.1,c.2]
def spCO (K:PySem.W.Frag) (n:Nat):Sp:=fun vs H Q _=>∃ (v:V) (t:Tm),vs=[v]∧TmV K H v t∧lv t≤n∧sz t≤1000 ∧
  ∀ (l:Addr) (H':Hp) (ts:List (Addr × List Int)),Same H H'→H l=none→H' l=some (.lst (Rf ts))→TsAt K H' ts→ts.map (·.2)=(cls t).map pr→Q (.ref l) H'
def spMk {α:Type} (K:PySem.W.Frag) (R:Hp→V→α→Prop) (op:Lab→Int→List α→α):Sp:=fun vs H Q _=>∃ (v:V) (u:Tm) (mk:Int) (lp:Addr) (ys:List V) (xs:List α),vs=[v,.int mk,.ref lp]∧TmV K H v u∧isC (lab u)=false∧H lp=some (.lst ys)∧RAll R H ys xs∧xs.length≤100 ∧
  ∀ (v':V) (H':Hp),Same H H'→R H' v' (op (lab u) mk xs)→Q v' H'
def spFill {α:Type} (K:PySem.W.Frag) (e:Expr) (R:Hp→V→α→Prop) (op:Lab→Int→List α→α) (n:Nat):Sp:=fun vs H Q _=>∃ (v:V) (u:Tm) (mk:Int) (lb f:Addr) (ds:List Addr) (cv:Int→Int→α),vs=[v,.int mk,.ref lb,.ref f]∧TmV K H v u∧lv u≤n∧sz u≤100∧SqL K H lb (ds.map V.ref)∧BelAt R H ds cv (cls u)∧LamAt H f e ∧
  ∀ (v':V) (H':Hp),Same H H'→R H' v' (fillT (fun l xs=>op l mk xs) cv u)→Q v' H'
section
variable {P:Program} {w:World} {K:PySem.W.Frag} {mg:Str→Option Value} {base:Heap} {f:Addr} {fd:FuncData}
theorem scCO:FnScope ["term", "told", "part"] ["term"] (defScope sCO):=⟨rfl,rfl,rfl,by decide +kernel,rfl,by decide +kernel,by decide +kernel⟩
theorem ok_co {n:Nat} (F:Fun K "calls_of" "calls_of" sCO f fd) (G:Gm mg) (RC:Fn P w K mg base 1 "is_call" ["term"] (spIsC K)) (R:Fn P w K mg base (n + 1) "calls_of" ["term"] (spCO K n)):FnOk P w K mg base CX0 (n + 2) f fd ["term"] (spCO K (n + 1)):=by
  refine F.ok scCO (fun vs H Q E h=>?_) (fun cdv A outer s H vs Q E hr h=>?_)
  · obtain ⟨v,t,rfl,_⟩:=h
    rfl
  obtain ⟨v,t,rfl,ht,hlv,hsz,q⟩:=h
  refine ⟨_,(pss_cons (ps_if (pt_val (pe_fn RC hr (pa_cons (pv 0) pa_nil) (Nat.le_add_left 1 n))) (pss_one (ps_ret (pe_lst (pa_cons ((pe_tup (pa_cons (pe_ix ix_tup (pv 0) pe_int (fun _ _=>rfl)) (pa_cons (pe_ix ix_tup (pv 0) pe_int (fun _ _=>rfl)) pa_nil)))) pa_nil)))) pss_nil)
    (pss_cons (ps_set (i:=1) scCO.nd rfl (Or.inl rfl) (pe_lst pa_nil))
    (pss_cons (ps_for PassesOwn.never rfl (pi_tup (pe_ix ix_tup (pv 0) pe_int (fun _ _=>rfl))) (pg_name (i:=2) scCO.nd rfl (Or.inl rfl))
      (pss_one (ps_expr (pe_bm PySem.F.plainAttrs_list PySem.F.slot_list_extend PySem.F.type_list_extend mt_extend (pv 1) (pa_cons (pe_fn R hr (pa_cons (pv 2) pa_nil) (Nat.le_refl _)) pa_nil)))))
    (pss_one (ps_ret (pv 1)))))),?_⟩
  refine ⟨_,rfl,v,t,rfl,ht,_,rfl,?_⟩
  rcases tm_open ht with ⟨a,m,b,rfl,rfl,h1⟩ | ⟨a,b,bs,nm,k,ad,rfl,et,h1,h2,h3,h4⟩
  · refine iteT ⟨_,rfl,a,_,1,_,rfl,rfl,h1,rfl,_,rfl,a,_,2,_,rfl,rfl,h1,rfl,(by show 2≤sizeLine;decide),fun p hp=>⟨(by show 1≤sizeLine;decide),fun l hl=>?_⟩⟩
    have g1:=same_new hp (.tup [.int m,.int b])
    have g2:=same_new hl (.lst [.ref p])
    refine q l _ [(p,[m,b])] (g1.trans g2) (g1.free hl) upd_same (fun x hx=>?_) rfl
    have:x=(p,[m,b]):=by simpa using hx
    rw [this]
    exact g2.seqT (SqT.of upd_same)
  have ecls:cls t=clss t.bs:=by
    have:=congrArg cls et
    rw [this];simp [cls,lcl]
  rw [et]
  refine iteF ?_
  have hlen:=h3.length
  rw [lv_bs] at hlv
  rw [sz_bs] at hsz
  rw [ecls] at q
  refine ⟨(by show 0≤sizeLine;decide),fun l hl=>?_⟩
  have g0:=same_new hl (.lst [])
  refine ⟨_,rfl,a,_,4,_,rfl,rfl,g0.seqT h1,rfl,b,rfl,⟨_,g0.seqT h2⟩,?_⟩
  refine for_tup (K:=K) (xs:=bs) (fun i σ H'=>∃ (ts:List (Addr × List Int)) (c1:Option V),σ=[some (.ref a),some (.ref l),c1]∧Same H H'∧H' l=some (.lst (Rf ts))∧TsAt K H' ts∧ts.map (·.2)=(clss (t.bs.take i)).map pr)
    ⟨[],none,rfl,g0,upd_same,fun x hx=>(nomatch hx),by simp [clss]⟩ ?_ ?_ ?_
  · rintro i σ H' _ ⟨ts,c1,_,g,_⟩
    exact g.seqT h2
  · rintro i x σ H' hx ⟨ts,c1,rfl,g,hl',hts,hcl⟩
    have hi:i < bs.length:=(List.getElem?_eq_some_iff.mp hx).1
    obtain ⟨c,hc⟩ : ∃ c,t.bs[i]?=some c:=⟨_,List.getElem?_eq_getElem (by omega)⟩
    obtain ⟨cv,hcv,hct⟩:=h3.get hc
    obtain rfl:cv=x:=Option.some.inj (hcv.symm.trans hx)
    have hm:=List.mem_of_getElem? hc
    have a1:=lv_le hm
    have a2:=sz_le hm
    refine ⟨_,rfl,.inl ⟨rfl,_,SqL.of hl'⟩,_,rfl,cv,c,rfl,hct.mono fun _ _=>g.seqT,by omega,by omega,fun lb Hb tsb gb hlbn hlb htb hclb=>?_⟩
    have hl2:=gb _ _ hl'
    have tl:ts.length≤szs t.bs:=by
      have e:=congrArg List.length hcl
      rw [List.length_map,List.length_map] at e
      have h5:=clss_len (t.bs.take i)
      have hle:szs (t.bs.take i)≤szs t.bs:=by
        have e:=szs_map (t.bs.take i ++ t.bs.drop i)
        rw [List.map_append,List.sum_append,szs_map,szs_map,List.take_append_drop] at e
        omega
      omega
    have tl2:tsb.length≤sz c:=by
      have e:=congrArg List.length hclb
      rw [List.length_map,List.length_map] at e
      have h5:=cls_len c
      omega
    refine ⟨l,lb,_,_,rfl,rfl,hl2,hlb,?_,?_⟩
    · rw [List.length_map,List.length_map];exact line_of (by omega)
    refine ⟨ts ++ tsb,_,rfl,fun x u e=>?_,by rw [upd_same];simp,?_,?_⟩
    · rw [upd_ne (ne_of_none e hl)];exact gb _ _ (g _ _ e)
    · exact (hts.mono fun _ _ h=>(gb.seqT h).put hl2).app (htb.mono fun _ _ h=>h.put hl2)
    · rw [List.map_append,hcl,hclb,List.take_add_one,hc]
      show _=(clss (t.bs.take i ++ [c])).map pr
      rw [clss_snoc,List.map_append]
  · rintro σ H' ⟨ts,c1,rfl,g,hl',hts,hcl⟩
    rw [List.take_of_length_le (by omega)] at hcl
    exact ⟨_,rfl,q l H' ts g hl hl' hts hcl⟩
theorem none_co {k:Nat}:FnOk P w K mg base CX0 k f fd ["term"] (spCO K 0):=by
  have no:∀ vs H Q E,¬ spCO K 0 vs H Q E:=fun vs H Q E h=>by
    obtain ⟨v,t,_,_,h0,_⟩:=h
    rw [lv_bs] at h0;omega
  exact ⟨fun vs H Q E h=>absurd h (no vs H Q E),fun A outer s H args us vs Q E _ _ _ _ h=>absurd h (no vs H Q E)⟩
theorem all_co (F:Fun K "calls_of" "calls_of" sCO f fd) (G:Gm mg) (RC:Fn P w K mg base 1 "is_call" ["term"] (spIsC K)) (hb:Binds K fd ["term"] []) (hm:mg "calls_of" = some (.ref f)):∀ n:Nat,FnOk P w K mg base CX0 (n + 1) f fd ["term"] (spCO K n)
  | 0=>none_co
  | n + 1=>ok_co F G RC ⟨f,fd,all_co F G RC hb hm n,hb,F.kp,hm⟩
theorem scFill:FnScope ["term", "mark", "below", "make"] ["term", "mark", "below", "make"] (defScope sFill):=⟨rfl,rfl,rfl,by decide +kernel,rfl,by decide +kernel,by decide +kernel⟩
theorem ok_fill {α:Type} {e:Expr} {R:Hp→V→α→Prop} {op:Lab→Int→List α→α} (hR:Rep K R) {n:Nat} (F:Fun K "filled" "filled" sFill f fd) (G:Gm mg) (RC:Fn P w K mg base 1 "is_call" ["term"] (spIsC K)) (CV:CalV P w K mg base 2 e (spMk K R op)) (RF:Fn P w K mg base (n + 3) "filled" ["term", "mark", "below", "make"] (spFill K e R op n)) :
    FnOk P w K mg base CX0 (n + 4) f fd ["term", "mark", "below", "make"] (spFill K e R op (n + 1)):=by
  refine F.ok scFill (fun vs H Q E h=>?_) (fun cdv A outer s H vs Q E hr h=>?_)
  · obtain ⟨v,u,mk,lb,f,ds,cv,rfl,_⟩:=h
    rfl
  obtain ⟨v,u,mk,lb,fm,ds,cv,rfl,ht,hlv,hsz,hlb,hB,hL,q⟩:=h
  refine ⟨_,(pss_cons (ps_if (pt_val (pe_fn RC hr (pa_cons (pv 0) pa_nil) (by omega))) (pss_one (ps_ret (pe_dget (hu_of hr) (pe_ix ix_list (pv 2) (pe_ix ix_tup (pv 0) pe_int (fun _ _=>rfl)) (fun _ _=>rfl)) (pe_ix ix_tup (pv 0) pe_int (fun _ _=>rfl)) (fun _ _=>rfl)))) pss_nil)
    (pss_one (ps_ret (pe_callV (i:=3) CV (hr.mono (by omega)) (pa_cons (pv 0) (pa_cons (pv 1) (pa_cons (pe_lcompG (CompG.many (xs:=["part"]) (caps:=["below", "make", "mark"]) (cap:=[2,3,1]) (cs:=[_,_,_]) rfl rfl (by decide +kernel) (by decide +kernel) (by decide +kernel) (by decide +kernel) (by decide +kernel) (by decide +kernel) rfl rfl rfl) rfl (pi_tup (pe_ix ix_tup (pv 0) pe_int (fun _ _=>rfl))) (pg_c1 (CompG.many (xs:=["part"]) (caps:=["below", "make", "mark"]) (cap:=[2,3,1]) (cs:=[_,_,_]) rfl rfl (by decide +kernel) (by decide +kernel) (by decide +kernel) (by decide +kernel) (by decide +kernel) (by decide +kernel) rfl rfl rfl)) (fun _ _ _ _=>pf_nil) (fun _ _ _ _=>pe_fn RF hr (pa_cons (pv 0) (pa_cons (pv 3) (pa_cons (pv 1) (pa_cons (pv 2) pa_nil)))) (Nat.le_refl _))) pa_nil))))))),?_⟩
  refine ⟨_,rfl,v,u,rfl,ht,_,rfl,?_⟩
  rcases tm_open ht with ⟨a,m,b,rfl,rfl,h1⟩ | ⟨a,b,bs,nm,k,ad,rfl,et,h1,h2,h3,h4⟩
  · obtain ⟨h0,d,kvs,x,e1,e2,e3,e4⟩:=hB (m,b) (by simp [leaf,cls,lcl,clss])
    have em:b=((b.toNat:Nat):Int):=by
      have:(0:Int)≤b:=h0
      omega
    refine iteT ⟨_,rfl,_,rfl,a,_,2,_,rfl,rfl,h1,rfl,lb,_,b,.ref d,rfl,rfl,hlb,?_,_,rfl,a,_,1,_,rfl,rfl,h1,rfl,d,x,rfl,.inl ⟨kvs,.inl m,e2,rfl,e3.symm⟩,q x H (Same.refl _) e4⟩
    rw [em];exact atI_nat (by rw [List.getElem?_map,e1];rfl)
  have ecls:cls u=clss u.bs:=by
    have:=congrArg cls et
    rw [this];simp [cls,lcl]
  have hlab:lab u=.put nm k ad:=by rw [et];rfl
  rw [ecls] at hB
  have hic:isC (lab u)=false:=by rw [hlab];rfl
  rw [hic]
  refine iteF ?_
  have hlen:=h3.length
  rw [lv_bs] at hlv
  rw [sz_bs] at hsz
  refine ⟨fm,rfl,_,rfl,_,rfl,_,rfl,a,_,4,_,rfl,rfl,h1,rfl,b,rfl,⟨_,h2⟩,fun acc hacc=>?_⟩
  refine c1_tup (K:=K) (xs:=bs) (cs:=[some (.ref lb),some (.ref fm),some (.int mk)]) (tt:=fun _ H Q=>Q true H) (te:=tCall (spFill K e R op n) [] E0 (tCons (tVar 0) (tCons (tVar 3) (tCons (tVar 1) (tCons (tVar 2) tNil))))) (fun i ys H'=>H' acc=some (.lst ys)∧Same H H'∧ys.length=i∧RAll R H' ys ((u.bs.take i).map (fillT (fun l xs=>op l mk xs) cv)))
    ⟨upd_same,same_new hacc _,rfl,.nil⟩ ?_ ?_ ?_
  · rintro i ys H' _ ⟨_,g,_⟩
    exact g.seqT h2
  · rintro i x ys H' hi hx ⟨hya,g,hyl,hys⟩
    obtain ⟨c,hc⟩ : ∃ c,u.bs[i]?=some c:=⟨_,List.getElem?_eq_getElem (by omega)⟩
    obtain ⟨cv',hcv,hct⟩:=h3.get hc
    obtain rfl:cv'=x:=Option.some.inj (hcv.symm.trans hx)
    have hm:=List.mem_of_getElem? hc
    have a1:=lv_le hm
    have a2:=sz_le hm
    refine iteT ⟨_,rfl,_,rfl,_,rfl,_,rfl,cv',c,mk,lb,fm,ds,cv,rfl,hct.mono fun _ _=>g.seqT,by omega,by omega,g.seq hlb,(hB.sub fun d hd=>mem_clss' hm hd).same hR g,hL.same g,fun v' H4 g4 hv'=>?_⟩
    refine comp_next (ys:=ys) hi (g4 _ _ hya) (by omega) ⟨upd_same,fun x u e=>?_,by simp [hyl],?_⟩
    · rw [upd_ne (ne_of_none e hacc)];exact g4 _ _ (g _ _ e)
    · rw [List.take_add_one,hc]
      show RAll R _ (ys ++ [v']) ((u.bs.take i ++ [c]).map (fillT (fun l xs=>op l mk xs) cv))
      rw [List.map_append]
      refine RAll.append (hys.imp fun h=>hR _ _ _ _ (fun _ _ h=>(g4.seqT h).put (g4 _ _ hya)) h) (.cons (hR _ _ _ _ (fun _ _ h=>h.put (g4 _ _ hya)) hv') .nil)
  rintro ys H1 ⟨hya,g,hyl,hys⟩
  have et2:u.bs.take bs.length=u.bs:=List.take_of_length_le (by omega)
  rw [et2] at hys
  have hbl:u.bs.length≤100:=by
    have:=szs_len u.bs
    omega
  refine ⟨hL.same g,.ref a,u,mk,acc,ys,_,rfl,ht.mono fun _ _=>g.seqT,by rw [hlab];rfl,hya,hys,by rw [List.length_map];exact hbl,fun v' H2 g2 hv'=>q v' H2 (g.trans g2) ?_⟩
  rw [et]
  rw [hlab] at hv'
  simp only [fillT,fillTs_map]
  exact hv'
theorem none_fill {α:Type} {e:Expr} {R:Hp→V→α→Prop} {op:Lab→Int→List α→α} {k:Nat}:FnOk P w K mg base CX0 k f fd ["term", "mark", "below", "make"] (spFill K e R op 0):=by
  have no:∀ vs H Q E,¬ spFill K e R op 0 vs H Q E:=fun vs H Q E h=>by
    obtain ⟨v,u,mk,lb,f,ds,cv,_,_,h0,_⟩:=h
    rw [lv_bs] at h0;omega
  exact ⟨fun vs H Q E h=>absurd h (no vs H Q E),fun A outer s H args us vs Q E _ _ _ _ h=>absurd h (no vs H Q E)⟩
theorem all_fill {α:Type} {e:Expr} {R:Hp→V→α→Prop} {op:Lab→Int→List α→α} (hR:Rep K R) (F:Fun K "filled" "filled" sFill f fd) (G:Gm mg) (RC:Fn P w K mg base 1 "is_call" ["term"] (spIsC K)) (CV:CalV P w K mg base 2 e (spMk K R op)) (hb:Binds K fd ["term", "mark", "below", "make"] []) (hm:mg "filled" = some (.ref f)):∀ n:Nat,FnOk P w K mg base CX0 (n + 3) f fd ["term", "mark", "below", "make"] (spFill K e R op n)
  | 0=>none_fill
  | n + 1=>ok_fill hR F G RC CV ⟨f,fd,all_fill hR F G RC CV hb hm n,hb,F.kp,hm⟩
end
end K26
namespace K26
open PySem L2 TM TT K9 K11
structure Mo (K:PySem.W.Frag) (H H':Hp):Prop where
  t:∀ a xs,SqT K H a xs→SqT K H' a xs
  l:∀ a xs,SqL K H a xs→SqL K H' a xs
theorem Mo.of {K:PySem.W.Frag} {H H':Hp} (g:Same H H'):Mo K H H':=⟨fun _ _=>g.seqT,fun _ _=>g.seq⟩
theorem Mo.trans {K:PySem.W.Frag} {H H1 H2:Hp} (a:Mo K H H1) (b:Mo K H1 H2):Mo K H H2:=⟨fun _ _ h=>b.t _ _ (a.t _ _ h),fun _ _ h=>b.l _ _ (a.l _ _ h)⟩
theorem Mo.sx {K:PySem.W.Frag} {H H':Hp} {d:Addr} {u:HO} (hd:H d=some u) (h1:∀ xs,u≠.tup xs) (h2:∀ xs,u≠.lst xs) (h3:∀ o xs,u≠.frz o (.tup xs)) (h4:∀ o xs,u≠.frz o (.lst xs)) (g:SameX d H H'):Mo K H H':=by
  constructor
  · intro a xs h
    rcases h with (h | ⟨o,h⟩) | h
    · exact .inl (.inl (g _ _ (ne_of h hd (fun z=>h1 xs z.symm)) h))
    · exact .inl (.inr ⟨o,g _ _ (ne_of h hd (fun z=>h3 o xs z.symm)) h⟩)
    · exact .inr h
  · intro a xs h
    rcases h with (h | ⟨o,h⟩) | h
    · exact .inl (.inl (g _ _ (ne_of h hd (fun z=>h2 xs z.symm)) h))
    · exact .inl (.inr ⟨o,g _ _ (ne_of h hd (fun z=>h4 o xs z.symm)) h⟩)
    · exact .inr h
theorem Mo.dk {K:PySem.W.Frag} {H H':Hp} {d:Addr} {kvs:List (Key × V)} (hd:H d=some (.dK kvs)) (g:SameX d H H'):Mo K H H':=Mo.sx hd (fun _ z=>nomatch z) (fun _ z=>nomatch z) (fun _ _ z=>nomatch z) (fun _ _ z=>nomatch z) g
theorem Mo.fz {K:PySem.W.Frag} {H H':Hp} {d:Addr} {ob:Obj} {kvs:List (Key × V)} (hd:H d=some (.frz ob (.dK kvs))) (g:SameX d H H'):Mo K H H':=Mo.sx hd (fun _ z=>nomatch z) (fun _ z=>nomatch z) (fun _ _ z=>nomatch z) (fun _ _ z=>nomatch z) g
theorem Mo.wood {K:PySem.W.Frag} {H H':Hp} {w:Addr} {ks:List KdT} (g:Mo K H H') (h:WoodAt K H w ks):WoodAt K H' w ks:=⟨g.l _ _ h.1,fun k hk=>⟨g.t _ _ (h.2 k hk).1,g.l _ _ (h.2 k hk).2.1,fun t ht=>⟨g.t _ _ ((h.2 k hk).2.2 t ht).1,g.t _ _ ((h.2 k hk).2.2 t ht).2⟩⟩⟩
theorem Mo.modes {K:PySem.W.Frag} {H H':Hp} {lm:Addr} {ms:List MdT} (g:Mo K H H') (h:ModesL K H lm ms):ModesL K H' lm ms:=⟨g.l _ _ h.1,fun m hm=>⟨g.t _ _ (h.2 m hm).1,g.l _ _ (h.2 m hm).2.1,(h.2 m hm).2.2.mono g.t⟩⟩
theorem Mo.turn {K:PySem.W.Frag} {H H':Hp} {tu wd lm:Addr} {v:V} {ms:List MdT} {T:Tu} (g:Mo K H H') (h:TurnAt K H tu wd lm v ms T):TurnAt K H' tu wd lm v ms T:=⟨g.t _ _ h.tu,g.wood h.w,g.modes h.m,h.s.mono g.t⟩
theorem few:∀ {n:Nat} {fs:List Int},fs.Nodup→(∀ m ∈ fs,0≤m∧m < (n:Int))→fs.length≤n
  | 0,[],_,_=>Nat.le_refl _
  | 0,m :: _,_,h=>by have:=h m List.mem_cons_self;omega
  | n + 1,fs,hn,h=>by
    have h1:(fs.filter fun m=>decide (m≠(n:Int))).length≤n:=few (hn.sublist List.filter_sublist) fun m hm=>by
      obtain ⟨h2,h3⟩:=List.mem_filter.mp hm
      have h4:=h m h2
      have h5:m≠(n:Int):=of_decide_eq_true h3
      omega
    have h2:fs.length≤(fs.filter fun m=>decide (m≠(n:Int))).length + 1:=by
      clear h h1
      induction fs with
      | nil=>simp
      | cons a r ih =>
        obtain ⟨ha,hr⟩:=List.nodup_cons.mp hn
        by_cases e:a=(n:Int)
        · have:r.filter (fun m=>decide (m≠(n:Int)))=r:=List.filter_eq_self.mpr fun x hx=>decide_eq_true fun z=>ha (by rw [e,← z];exact hx)
          rw [List.filter_cons_of_neg (by simp [e]),this];simp
        · have:=ih hr
          rw [List.filter_cons_of_pos (by simp [e])]
          simp only [List.length_cons];omega
    omega
abbrev RuL:=List (Int × V × Tm)
def kvI (ps:RuL):List (Key × V):=ps.map fun p=>(Sum.inl p.1,p.2.1)
theorem kvI_len (ps:RuL):(kvI ps).length=ps.length:=List.length_map ..
theorem kvI_none {ps:RuL} {m:Int} (h:m ∉ ps.map (·.1)):valV (kvI ps) (Sum.inl m:Key)=none:=by
  induction ps with
  | nil=>rfl
  | cons p r ih =>
    simp only [List.map_cons,List.mem_cons,not_or] at h
    show valV ((Sum.inl p.1,p.2.1) :: kvI r) _=none
    rw [valV_neg (fun z=>h.1 (by cases z;rfl)),ih h.2]
theorem kvI_some {ps:RuL} {m:Int} (h:m ∈ ps.map (·.1)):∃ v,valV (kvI ps) (Sum.inl m:Key)=some v:=by
  induction ps with
  | nil=>simp at h
  | cons p r ih =>
    by_cases e:p.1=m
    · exact ⟨p.2.1,valV_pos (p:=((Sum.inl p.1:Key),p.2.1)) (by show (Sum.inl p.1:Key)=_;rw [e])⟩
    · simp only [List.map_cons,List.mem_cons] at h
      rcases h with h | h
      · exact absurd h.symm e
      · obtain ⟨v,hv⟩:=ih h
        exact ⟨v,by show valV ((Sum.inl p.1,p.2.1) :: kvI r) _=some v;rw [valV_neg (fun z=>e (by cases z;rfl)),hv]⟩
theorem kvI_put {ps:RuL} {m:Int} {v:V} (u:Tm) (h:m ∉ ps.map (·.1)):putK (kvI ps) (Sum.inl m:Key) v=kvI (ps ++ [(m,v,u)]):=by
  rw [putK_new v (kvI_none h)]
  simp [kvI]
structure RuAt (K:PySem.W.Frag) (H:Hp) (d:Addr) (ps:RuL):Prop where
  d:H d=some (.dK (kvI ps))
  t:∀ p ∈ ps,TmV K H p.2.1 p.2.2
structure RlC (T:Tu) (c:Tree Str) (m:Int) (u:Tm):Prop where
  m0:0≤m
  ex:∃ md,T.ms[m.toNat]?=some md∧ruleK T.ks md (nmT c)=some u∧u ∈ md.2
  st:St T (u,c)
structure Ned (K:PySem.W.Frag) (H0 H:Hp) (T:Tu) (r:Tree Str) (ld:Addr) (es:List (Addr × RuL)) (dn:Int→Int→Prop):Prop where
  l:H ld=some (.lst (es.map fun e=>V.ref e.1))
  fl:H0 ld=none
  len:es.length=r.bs.length
  inj:∀ (i j:Nat) a b,es[i]?=some a→es[j]?=some b→a.1=b.1→i=j
  fr:∀ (i:Nat) e,es[i]?=some e→H0 e.1=none
  at':∀ (i:Nat) e,es[i]?=some e→H e.1=some (.dK (kvI e.2))∧(e.2.map (·.1)).Nodup
  ok:∀ (i:Nat) e c,es[i]?=some e→r.bs[i]?=some c→∀ p ∈ e.2,TmV K H p.2.1 p.2.2∧RlC T c p.1 p.2.2
  dn:∀ m b,dn m b→∃ e,es[b.toNat]?=some e∧m ∈ e.2.map (·.1)
theorem Ned.same {K:PySem.W.Frag} {H0 H H':Hp} {T:Tu} {r:Tree Str} {l:Addr} {es:List (Addr × RuL)} {dn:Int→Int→Prop} (g:Same H H') (h:Ned K H0 H T r l es dn):Ned K H0 H' T r l es dn :=
  ⟨g _ _ h.l,h.fl,h.len,h.inj,h.fr,fun i e he=>⟨g _ _ (h.at' i e he).1,(h.at' i e he).2⟩,fun i e c he hc p hp=>⟨(h.ok i e c he hc p hp).1.mono fun _ _=>g.seqT,(h.ok i e c he hc p hp).2⟩,h.dn⟩
theorem Ned.imp {K:PySem.W.Frag} {H0 H:Hp} {T:Tu} {r:Tree Str} {l:Addr} {es:List (Addr × RuL)} {dn dn':Int→Int→Prop} (h:Ned K H0 H T r l es dn) (k:∀ m b,dn' m b→∃ e,es[b.toNat]?=some e∧m ∈ e.2.map (·.1)):Ned K H0 H T r l es dn':=⟨h.l,h.fl,h.len,h.inj,h.fr,h.at',h.ok,k⟩
theorem set_at' {α:Type} {es:List α} {i j:Nat} {x y:α} (h:(es.set i x)[j]?=some y):(j=i∧y=x)∨(j≠i∧es[j]?=some y):=by
  rw [List.getElem?_set] at h
  by_cases e:i=j
  · rw [if_pos e] at h
    split at h
    · exact .inl ⟨e.symm,(Option.some.inj h).symm⟩
    · cases h
  · rw [if_neg e] at h
    exact .inr ⟨Ne.symm e,h⟩
theorem Ned.put {K:PySem.W.Frag} {H0 H:Hp} {T:Tu} {r:Tree Str} {l:Addr} {es:List (Addr × RuL)} {dn:Int→Int→Prop} (h:Ned K H0 H T r l es dn) {i:Nat} {e:Addr × RuL} {c:Tree Str} {m:Int} {v:V} {u:Tm} (he:es[i]?=some e) (hc:r.bs[i]?=some c) (hm:m ∉ e.2.map (·.1)) (hv:TmV K H v u) (hr:RlC T c m u) :
    Ned K H0 (upd H e.1 (.dK (kvI (e.2 ++ [(m,v,u)])))) T r l (es.set i (e.1,e.2 ++ [(m,v,u)])) (fun m' b'=>dn m' b'∨(m'=m∧b'.toNat=i)):=by
  have hd:=(h.at' i e he).1
  have hi:i < es.length:=(List.getElem?_eq_some_iff.mp he).1
  have g:Mo K H (upd H e.1 (.dK (kvI (e.2 ++ [(m,v,u)])))):=Mo.dk hd SameX.upd
  have emap:(es.set i (e.1,e.2 ++ [(m,v,u)])).map (fun e=>V.ref e.1)=es.map fun e=>V.ref e.1:=by
    apply List.ext_getElem?
    intro j
    rw [List.getElem?_map,List.getElem?_map,List.getElem?_set]
    by_cases z:i=j
    · subst z
      rw [if_pos rfl,if_pos hi,he];rfl
    · rw [if_neg z]
  refine ⟨?_,h.fl,by rw [List.length_set];exact h.len,fun a b x y hx hy z=>?_,fun j x hx=>?_,fun j x hx=>?_,fun j x c' hx hc' p hp=>?_,fun m' b' hdn=>?_⟩
  · rw [emap,upd_ne (ne_of h.l hd (by intro z;cases z))];exact h.l
  · rcases set_at' hx with ⟨rfl,rfl⟩ | ⟨_,hx'⟩ <;> rcases set_at' hy with ⟨rfl,rfl⟩ | ⟨_,hy'⟩
    · rfl
    · exact h.inj _ _ _ _ he hy' z
    · exact h.inj _ _ _ _ hx' he z
    · exact h.inj _ _ _ _ hx' hy' z
  · rcases set_at' hx with ⟨rfl,rfl⟩ | ⟨_,hx⟩
    · exact h.fr _ e he
    · exact h.fr _ _ hx
  · rcases set_at' hx with ⟨rfl,rfl⟩ | ⟨nj,hx⟩
    · refine ⟨upd_same,?_⟩
      show ((e.2 ++ [(m,v,u)]).map (·.1)).Nodup
      rw [List.map_append]
      refine List.nodup_append.mpr ⟨(h.at' _ e he).2,by simp,fun a ha b hb=>?_⟩
      have:b=m:=by simpa using hb
      rw [this]
      exact fun z=>hm (z ▸ ha)
    · refine ⟨?_,(h.at' _ _ hx).2⟩
      rw [upd_ne (fun z=>nj (h.inj _ _ _ _ hx he z))]
      exact (h.at' _ _ hx).1
  · rcases set_at' hx with ⟨rfl,rfl⟩ | ⟨nj,hx⟩
    · obtain rfl:c'=c:=Option.some.inj (hc'.symm.trans hc)
      rcases List.mem_append.mp hp with hp | hp
      · exact ⟨(h.ok _ _ _ he hc _ hp).1.mono g.t,(h.ok _ _ _ he hc _ hp).2⟩
      · have:p=(m,v,u):=by simpa using hp
        rw [this]
        exact ⟨hv.mono g.t,hr⟩
    · exact ⟨(h.ok _ _ _ hx hc' _ hp).1.mono g.t,(h.ok _ _ _ hx hc' _ hp).2⟩
  · rcases hdn with hdn | ⟨rfl,hb⟩
    · obtain ⟨x,hx,hxm⟩:=h.dn _ _ hdn
      by_cases z:b'.toNat=i
      · rw [z] at hx
        obtain rfl:x=e:=Option.some.inj (hx.symm.trans he)
        refine ⟨(x.1,x.2 ++ [(m,v,u)]),by rw [z,List.getElem?_set,if_pos rfl,if_pos hi],?_⟩
        show m' ∈ (x.2 ++ [(m,v,u)]).map (·.1)
        rw [List.map_append]
        exact List.mem_append_left _ hxm
      · exact ⟨x,by rw [List.getElem?_set,if_neg (Ne.symm z)];exact hx,hxm⟩
    · exact ⟨(e.1,e.2 ++ [(m',v,u)]),by rw [hb,List.getElem?_set,if_pos rfl,if_pos hi],by simp⟩
def spCB (K:PySem.W.Frag):Sp:=fun vs H Q _=>∃ (tu wd lm:Addr) (sv:V) (mo:List MdT) (T:Tu) (d:Addr) (ps:RuL) (rv:V) (r:Tree Str),vs=[.ref tu,.ref d,rv]∧TurnAt K H tu wd lm sv mo T∧TurnOk mo T∧mo.length≤10∧RuAt K H d ps∧TrV K H rv r∧(∀ p ∈ ps,St T (p.2.2,r)∧lv p.2.2≤8∧sz p.2.2≤100) ∧
  ∀ (l:Addr) (H':Hp) (es:List (Addr × RuL)),Same H H'→Ned K H H' T r l es (fun m b=>∃ p ∈ ps,(m,b) ∈ cls p.2.2)→Q (.ref l) H'
structure Wlk (K:PySem.W.Frag) (H0 H:Hp) (d:Addr) (o:Obj) (kvs:List (Key × V)) (T:Tu) (r:Tree Str) (l:Addr) (es:List (Addr × RuL)) (dn:Int→Int→Prop):Prop where
  x:SameX d H0 H
  d:H d=some (.frz o (.dK kvs))
  n:Ned K H0 H T r l es dn
theorem Wlk.same {K:PySem.W.Frag} {H0 H H':Hp} {d:Addr} {o:Obj} {kvs:List (Key × V)} {T:Tu} {r:Tree Str} {l:Addr} {es:List (Addr × RuL)} {dn:Int→Int→Prop} (g:Same H H') (h:Wlk K H0 H d o kvs T r l es dn):Wlk K H0 H' d o kvs T r l es dn:=⟨h.x.trans (SameX.of g),g _ _ h.d,h.n.same g⟩
section
variable {P:Program} {w:World} {K:PySem.W.Frag} {mg:Str→Option Value} {base:Heap} {f:Addr} {fd:FuncData}
theorem scCB:FnScope ["turning", "rules", "tree", "needed", "rule", "mode", "branch"] ["turning", "rules", "tree"] (defScope sCalB):=⟨rfl,rfl,rfl,by decide +kernel,rfl,by decide +kernel,by decide +kernel⟩
theorem ok_cb (F:Fun K "called_below" "called_below" sCalB f fd) (G:Gm mg) (RO:Fn P w K mg base 9 "calls_of" ["term"] (spCO K 8)) (RR:Fn P w K mg base 2 "rule_of" ["turning", "mode", "name"] (spRule K)):FnOk P w K mg base CX0 10 f fd ["turning", "rules", "tree"] (spCB K):=by
  refine F.ok scCB (fun vs H Q E h=>?_) (fun cdv A outer s H vs Q E hr h=>?_)
  · obtain ⟨tu,wd,lm,sv,mo,T,d,ps,rv,r,rfl,_⟩:=h
    rfl
  obtain ⟨tu,wd,lm,sv,mo,T,d,ps,rv,r,rfl,hT,hO,hm10,hru,htr,hps,q⟩:=h
  refine ⟨_,(pss_cons (ps_setG (i:=3) (CompG.many (xs:=["branch"]) (caps:=[]) (cap:=[]) (cs:=[]) rfl rfl (by decide +kernel) (by decide +kernel) (by decide +kernel) (by decide +kernel) (by decide +kernel) (by decide +kernel) rfl rfl rfl) rfl (pi_tup (pe_ix ix_tup (pv 2) pe_int (fun _ _=>rfl))) (pg_c1 (CompG.many (xs:=["branch"]) (caps:=[]) (cap:=[]) (cs:=[]) rfl rfl (by decide +kernel) (by decide +kernel) (by decide +kernel) (by decide +kernel) (by decide +kernel) (by decide +kernel) rfl rfl rfl)) (fun _ _ _ _=>pf_nil) (fun _ _ _ _=>pe_dnewK) scCB.nd rfl rfl)
    (pss_cons (ps_melt (ps_for PassesOwn.never rfl (pi_dvals (pe_bm0 PySem.F.plainAttrs_dict PySem.F.slot_dict_values PySem.F.type_dict_values mt_values (pv 1))) (pg_name (i:=4) scCB.nd rfl (Or.inl rfl)) (pss_one
      (ps_for PassesOwn.never rfl (pi_list (pe_fn RO hr (pa_cons (pv 4) pa_nil))) (pg_tup rfl (pgs_cons (pg_name (i:=5) scCB.nd rfl (Or.inl rfl)) (pgs_cons (pg_name (i:=6) scCB.nd rfl (Or.inl rfl)) pgs_nil))) (pss_one
        (ps_if (pt_cmp (pc_dnotin (hu_of hr) (pv 5) (pe_ix ix_list (pv 3) (pv 6) (fun _ _=>rfl)))) (pss_one
          (ps_dput (hu_of hr) (pe_ix ix_list (pv 3) (pv 6) (fun _ _=>rfl)) (pv 5) (pe_fn RR hr (pa_cons (pv 0) (pa_cons (pv 5) (pa_cons (pe_ix ix_tup (pe_ix ix_tup (pe_ix ix_tup (pv 2) pe_int (fun _ _=>rfl)) (pv 6) (fun _ _=>rfl)) pe_int (fun _ _=>rfl)) pa_nil)))) rfl)) pss_nil))))))
    (pss_one (ps_ret (pv 3))))),?_⟩
  cases htr with
  | @mk a b us ts name mark h1 h2 h3 h4 =>
  have hul:=h3.length
  refine ⟨_,rfl,a,_,2,_,rfl,rfl,h1,rfl,b,rfl,⟨_,h2⟩,fun acc hacc=>?_⟩
  refine c1_tup (K:=K) (xs:=us) (cs:=[]) (tt:=fun _ H Q=>Q true H) (te:=tDNewK) (fun i ys H'=>∃ as:List Addr,ys=as.map V.ref∧H' acc=some (.lst ys)∧Same H H'∧as.length=i∧(∀ (j:Nat) x,as[j]?=some x→H' x=some (.dK [])∧H x=none)∧∀ (i j:Nat) x y,as[i]?=some x→as[j]?=some y→x=y→i=j)
    ⟨[],rfl,upd_same,same_new hacc _,rfl,fun j x h=>by simp at h,fun i j x y h=>by simp at h⟩ ?_ ?_ ?_
  · rintro i ys H' _ ⟨_,_,_,g,_⟩
    exact g.seqT h2
  · rintro i x ys H' hi hx ⟨as,rfl,hya,g,hal,has,hin⟩
    refine iteT fun p hp=>?_
    have g2:=same_new hp (.dK [])
    have hya2:=g2 _ _ hya
    have hpa:p≠acc:=fun z=>by rw [z,hya] at hp;cases hp
    refine comp_next (ys:=as.map V.ref) hi hya2 (by rw [List.length_map];omega) ⟨as ++ [p],by simp,upd_same,fun x u e=>?_,by simp [hal],fun j x hx=>?_,fun i j x y hx hy=>?_⟩
    · rw [upd_ne (ne_of_none e hacc)];exact g2 _ _ (g _ _ e)
    · rw [List.getElem?_append] at hx
      split at hx
      · obtain ⟨e1,e2⟩:=has j x hx
        refine ⟨?_,e2⟩
        rw [upd_ne (ne_of (g2 _ _ e1) hya2 (by intro z;cases z))];exact g2 _ _ e1
      · have e:x=p:=by
          have:=List.mem_of_getElem? hx
          simpa using this
        subst e
        exact ⟨by rw [upd_ne hpa];exact upd_same,g.free hp⟩
    · have key:∀ (i:Nat) x,(as ++ [p])[i]?=some x→(i < as.length∧as[i]?=some x)∨(i=as.length∧x=p):=fun i x hx=>by
        rw [List.getElem?_append] at hx
        split at hx
        · exact .inl ⟨by assumption,hx⟩
        · have e:x=p:=by
            have:=List.mem_of_getElem? hx
            simpa using this
          have:=(List.getElem?_eq_some_iff.mp hx).1
          simp only [List.length_singleton] at this
          exact .inr ⟨by omega,e⟩
      intro z
      rcases key i x hx with ⟨_,hx⟩ | ⟨ei,ex⟩ <;> rcases key j y hy with ⟨_,hy⟩ | ⟨ej,ey⟩
      · exact hin _ _ _ _ hx hy z
      · have:=(has _ _ hx).1
        rw [z,ey,hp] at this;cases this
      · have:=(has _ _ hy).1
        rw [← z,ex,hp] at this;cases this
      · omega
  rintro ys H1 ⟨as,rfl,hya,g1,hal,has,hin⟩
  have hd1:=g1 _ _ hru.d
  have hN1:Ned K H H1 T (.node name mark ts) acc (as.map fun x=>(x,([]:RuL))) (fun _ _=>False):=by
    have key:∀ (i:Nat) e,(as.map fun x=>(x,([]:RuL)))[i]?=some e→as[i]?=some e.1∧e.2=[]:=fun i e he=>by
      rw [List.getElem?_map] at he
      cases h:as[i]? with
      | none=>rw [h] at he;cases he
      | some x=>rw [h] at he;cases he;exact ⟨rfl,rfl⟩
    refine ⟨by rw [List.map_map];exact hya,hacc,by rw [List.length_map,hal];exact hul,fun i j x y hx hy z=>hin _ _ _ _ (key _ _ hx).1 (key _ _ hy).1 z,fun i e he=>(has _ _ (key _ _ he).1).2,fun i e he=>?_,fun i e c he _ p hp=>?_,fun _ _ z=>z.elim⟩
    · rw [(key _ _ he).2]
      exact ⟨(has _ _ (key _ _ he).1).1,by simp⟩
    · rw [(key _ _ he).2] at hp
      cases hp
  refine ⟨d,kvI ps,hd1,_,rfl,.inr (.inr (.inl ⟨rfl,.inl ⟨_,hd1⟩⟩)),d,kvI ps,rfl,rfl,hd1,fun pv hpv=>⟨pv,d,kvI ps,rfl,upd_same,same_new hpv _ _ _ hd1,fun o=>?_⟩⟩
  have g2:=same_new hpv (ValO pv d)
  have hd2:=g2 _ _ hd1
  have hN2:=hN1.same g2
  have gg:=g1.trans g2
  generalize upd H1 pv (ValO pv d)=H2 at g2 hd2 hN2 gg
  have hdn:∀ (i:Nat) (e:Addr × RuL) (es:List (Addr × RuL)),(∀ (i:Nat) e,es[i]?=some e→H e.1=none)→es[i]?=some e→e.1≠d:=fun i e es hf he z=>by
    have:=hf i e he
    rw [z,hru.d] at this;cases this
  have hW2:Wlk K H (upd H2 d (.frz o (.dK (kvI ps)))) d o (kvI ps) T (.node name mark ts) acc (as.map fun x=>(x,([]:RuL))) (fun m b=>∃ p ∈ ps.take 0,(m,b) ∈ cls p.2.2):=by
    have gm:Mo K H2 (upd H2 d (.frz o (.dK (kvI ps)))):=Mo.dk hd2 SameX.upd
    refine ⟨(SameX.of gg).trans SameX.upd,upd_same,⟨?_,hN2.fl,hN2.len,hN2.inj,hN2.fr,fun i e he=>?_,fun i e c he hc p hp=>⟨(hN2.ok i e c he hc p hp).1.mono gm.t,(hN2.ok i e c he hc p hp).2⟩,fun m b h=>?_⟩⟩
    · rw [upd_ne (ne_of hN2.l hd2 (by intro z;cases z))];exact hN2.l
    · rw [upd_ne (hdn i e _ hN2.fr he)];exact hN2.at' i e he
    · obtain ⟨p,hp,_⟩:=h
      simp at hp
  refine for_dvals (d:=d) (o:=o) (kvs:=kvI ps) (fun i σ H'=>∃ (c4 c5 c6:Option V) (es:List (Addr × RuL)),σ=[some (.ref tu),some (.ref d),some (.ref a),some (.ref acc),c4,c5,c6]∧Wlk K H H' d o (kvI ps) T (.node name mark ts) acc es (fun m b=>∃ p ∈ ps.take i,(m,b) ∈ cls p.2.2))
    ⟨none,none,none,_,rfl,hW2⟩ ?_ ?_ ?_
  · rintro i σ H' _ ⟨_,_,_,_,_,hW⟩
    exact hW.d
  · rintro i k x σ H3 hx ⟨c4,c5,c6,es,rfl,hW⟩
    obtain ⟨p,hp,hpx⟩ : ∃ p,ps[i]?=some p∧p.2.1=x:=by
      rw [kvI,List.getElem?_map] at hx
      cases h:ps[i]? with
      | none=>rw [h] at hx;cases hx
      | some p=>rw [h] at hx;cases hx;exact ⟨p,rfl,rfl⟩
    subst hpx
    have hpm:=List.mem_of_getElem? hp
    obtain ⟨hst,hlv,hsz⟩:=hps p hpm
    have gm3:Mo K H H3:=Mo.dk hru.d hW.x
    refine ⟨_,rfl,p.2.1,p.2.2,rfl,(hru.t p hpm).mono gm3.t,hlv,Nat.le_trans hsz (by decide),fun lc H4 tx g4 hlcn hlc htx hcl=>⟨lc,rfl,⟨_,SqL.of hlc⟩,?_⟩⟩
    have hW4:=hW.same g4
    have htxl:tx.length=(cls p.2.2).length:=by
      have:=congrArg List.length hcl
      simpa using this
    refine for_list (K:=K) (xs:=Rf tx) (fun j σ H'=>∃ (c5 c6:Option V) (es:List (Addr × RuL)),σ=[some (.ref tu),some (.ref d),some (.ref a),some (.ref acc),some p.2.1,c5,c6]∧Wlk K H H' d o (kvI ps) T (.node name mark ts) acc es (fun m b=>(∃ p ∈ ps.take i,(m,b) ∈ cls p.2.2)∨(m,b) ∈ (cls p.2.2).take j)∧SqL K H' lc (Rf tx)∧TsAt K H' tx)
      ⟨_,_,es,rfl,⟨hW4.x,hW4.d,hW4.n.imp fun m b h=>hW4.n.dn m b (by rcases h with h | h;exact h;simp at h)⟩,SqL.of hlc,htx⟩ ?_ ?_ ?_
    · rintro j σ H' _ ⟨_,_,_,_,_,h,_⟩
      exact h
    · rintro j x σ H5 hx ⟨c5,c6,es5,rfl,hW5,hlc5,htx5⟩
      have hj:j < tx.length:=by
        have:=(List.getElem?_eq_some_iff.mp hx).1
        simpa using this
      obtain rfl:x=.ref tx[j].1:=by
        rw [List.getElem?_map,List.getElem?_eq_getElem hj] at hx
        exact (Option.some.inj hx).symm
      have hjc:j < (cls p.2.2).length:=by omega
      have etx:tx[j].2=pr (cls p.2.2)[j]:=by
        have:=congrArg (fun l=>l[j]?) hcl
        simp only [List.getElem?_map,List.getElem?_eq_getElem hj,List.getElem?_eq_getElem hjc,Option.map_some] at this
        exact Option.some.inj this
      have htc:SqT K H5 tx[j].1 [.int (cls p.2.2)[j].1,.int (cls p.2.2)[j].2]:=by
        have:=htx5 tx[j] (List.getElem_mem hj)
        rw [etx] at this
        exact this
      have htake:(cls p.2.2).take (j + 1)=(cls p.2.2).take j ++ [(cls p.2.2)[j]]:=by rw [List.take_add_one,List.getElem?_eq_getElem hjc];rfl
      have hcm:(cls p.2.2)[j] ∈ cls p.2.2:=List.getElem_mem hjc
      generalize (cls p.2.2)[j]=c at htc htake hcm
      obtain ⟨m,bb⟩:=c
      obtain ⟨t,md,v,b0,m0,e1,e2,e3,e4,e5⟩:=hst.call hO.ok hcm
      have hrlc:RlC T t m v:=⟨m0,⟨md,e2,e3,e4⟩,e5⟩
      have ebb:bb=((bb.toNat:Nat):Int):=by omega
      have em:m=((m.toNat:Nat):Int):=by omega
      obtain ⟨e,he⟩ : ∃ e,es5[bb.toNat]?=some e:=⟨_,List.getElem?_eq_getElem (by rw [hW5.n.len];exact (List.getElem?_eq_some_iff.mp e1).1)⟩
      have hate:atI (es5.map fun e=>V.ref e.1) bb=some (.ref e.1):=by rw [ebb];exact atI_nat (by rw [List.getElem?_map,he];rfl)
      have hed:=(hW5.n.at' _ _ he).1
      refine ⟨_,_,rfl,htc,rfl,_,_,rfl,_,_,rfl,rfl,?_⟩
      by_cases hin:m ∈ e.2.map (·.1)
      · obtain ⟨x,hx⟩:=kvI_some hin
        refine ⟨_,rfl,_,rfl,_,rfl,acc,_,_,_,rfl,rfl,SqL.of hW5.n.l,hate,e.1,_,rfl,.inl ⟨_,.inl m,.inl hed,rfl,hx.symm⟩,_,rfl,iteF ?_⟩
        refine ⟨_,_,es5,rfl,⟨hW5.x,hW5.d,hW5.n.imp fun m' b' h=>?_⟩,hlc5,htx5⟩
        rcases h with h | h
        · exact hW5.n.dn _ _ (.inl h)
        · rw [htake] at h
          rcases List.mem_append.mp h with h | h
          · exact hW5.n.dn _ _ (.inr h)
          · have z:(m',b')=(m,bb):=by simpa using h
            cases z
            exact ⟨e,he,hin⟩
      · refine ⟨_,rfl,_,rfl,_,rfl,acc,_,_,_,rfl,rfl,SqL.of hW5.n.l,hate,e.1,_,rfl,.inl ⟨_,.inl m,.inl hed,rfl,(kvI_none hin).symm⟩,_,rfl,iteT ?_⟩
        obtain ⟨mt,hmt,emd,hml⟩:=hO.get e2
        have gm5:Mo K H H5:=Mo.dk hru.d hW5.x
        have hT5:=gm5.turn hT
        obtain ⟨tv,htv,htr⟩:=h3.get e1
        have hu5:atI us bb=some tv:=by rw [ebb];exact atI_nat htv
        have htr5:=htr.mono gm5.t
        cases htr5 with
        | @mk ta tb tus tts tname tmark k1 k2 k3 k4 =>
        refine ⟨_,rfl,_,rfl,_,rfl,a,_,2,_,rfl,rfl,gm5.t _ _ h1,rfl,_,rfl,b,_,_,_,rfl,rfl,gm5.t _ _ h2,hu5,ta,_,0,_,rfl,rfl,k1,rfl,?_⟩
        refine ⟨tu,wd,lm,sv,m.toNat,tname,T.ks,mo,mt,by rw [← em];rfl,hT5.tu,hT5.w,hO.wo,hT5.m,hmt,hml,fun v' H6 g6 hv'=>?_⟩
        have hv6:TmV K H6 v' v:=by
          rw [emd] at hv'
          have e3':ruleK T.ks md tname=some v:=e3
          rw [e3'] at hv'
          exact hv'
        have hW6:=hW5.same g6
        have hed6:=g6 _ _ hed
        have hfw:e.2.length≤10:=by
          have h1:=few (n:=mo.length) (fs:=e.2.map (·.1)) (hW5.n.at' _ _ he).2 fun m' hm'=>by
            obtain ⟨p',hp',rfl⟩:=List.mem_map.mp hm'
            obtain ⟨_,⟨mm,⟨md',z,_⟩,_⟩⟩:=hW5.n.ok _ _ _ he e1 p' hp'
            have z1:=(List.getElem?_eq_some_iff.mp z).1
            have z2:mo.length=T.ms.length:=by rw [← hO.me];simp [mds]
            omega
          rw [List.length_map] at h1
          omega
        refine ⟨_,rfl,_,rfl,acc,_,_,_,rfl,rfl,SqL.of hW6.n.l,hate,_,rfl,e.1,_,rfl,.inl ⟨_,.inl m,hed6,rfl,by rw [kvI_len,size_line];omega,rfl⟩,?_⟩
        rw [kvI_put v hin]
        have hNp:=hW6.n.put he e1 hin hv6 hrlc
        have gx:SameX e.1 H6 (upd H6 e.1 (.dK (kvI (e.2 ++ [(m,v',v)])))):=SameX.upd
        have gm6:Mo K H5 (upd H6 e.1 (.dK (kvI (e.2 ++ [(m,v',v)])))):=(Mo.of g6).trans (Mo.dk hed6 gx)
        have hne:e.1≠d:=hdn _ e es5 hW5.n.fr he
        have hfe:=hW5.n.fr _ _ he
        refine ⟨_,_,_,rfl,⟨fun x u n z=>?_,?_,hNp.imp fun m' b' h=>?_⟩,gm6.l _ _ hlc5,htx5.mono gm6.t⟩
        · rw [upd_ne (ne_of_none z hfe)];exact hW6.x _ _ n z
        · rw [upd_ne (Ne.symm hne)];exact hW6.d
        · rcases h with h | h
          · exact hNp.dn _ _ (.inl (.inl h))
          · rw [htake] at h
            rcases List.mem_append.mp h with h | h
            · exact hNp.dn _ _ (.inl (.inr h))
            · have z:(m',b')=(m,bb):=by simpa using h
              cases z
              exact hNp.dn _ _ (.inr ⟨rfl,rfl⟩)
    · rintro σ H5 ⟨c5,c6,es5,rfl,hW5,_,_⟩
      refine ⟨_,_,_,es5,rfl,⟨hW5.x,hW5.d,hW5.n.imp fun m b h=>hW5.n.dn m b ?_⟩⟩
      obtain ⟨p',hp',hc'⟩:=h
      rw [List.take_add_one,hp] at hp'
      rcases List.mem_append.mp hp' with hp' | hp'
      · exact .inl ⟨p',hp',hc'⟩
      · have z:p'=p:=by simpa using hp'
        rw [z] at hc'
        refine .inr ?_
        rw [List.take_of_length_le (by rw [List.length_map];omega)]
        exact hc'
  · rintro σ H3 ⟨c4,c5,c6,es,rfl,hW⟩
    rw [kvI_len,List.take_of_length_le (Nat.le_refl _)] at hW
    refine ⟨⟨o,hW.d⟩,_,rfl,q acc _ es (fun x u e=>?_) ?_⟩
    · by_cases z:x=d
      · subst z
        rw [hru.d] at e
        rw [← e]
        exact upd_same
      · rw [upd_ne z];exact hW.x _ _ z e
    · have gm:Mo K H3 (upd H3 d (.dK (kvI ps))):=Mo.fz hW.d SameX.upd
      refine ⟨?_,hW.n.fl,hW.n.len,hW.n.inj,hW.n.fr,fun i e he=>?_,fun i e c he hc p hp=>⟨(hW.n.ok i e c he hc p hp).1.mono gm.t,(hW.n.ok i e c he hc p hp).2⟩,hW.n.dn⟩
      · rw [upd_ne (ne_of hW.n.l hW.d (by intro z;cases z))];exact hW.n.l
      · rw [upd_ne (hdn i e _ hW.n.fr he)];exact hW.n.at' i e he
end
end K26
namespace K26
open PySem L2 TM TT K9 K11
theorem sxl {K:PySem.W.Frag} {H H':Hp} {lb:Addr} {ys:List V} (hl:H lb=some (.lst ys)) (g:SameX lb H H'):∀ a xs,SqT K H a xs→SqT K H' a xs:=by
  intro a xs h
  rcases h with (h | ⟨o,h⟩) | h
  · exact .inl (.inl (g _ _ (ne_of h hl (fun z=>nomatch z)) h))
  · exact .inl (.inr ⟨o,g _ _ (ne_of h hl (fun z=>nomatch z)) h⟩)
  · exact .inr h
theorem Ned.sx {K:PySem.W.Frag} {H0 H H':Hp} {T:Tu} {r:Tree Str} {l lb:Addr} {ys:List V} {es:List (Addr × RuL)} {dn:Int→Int→Prop} (hl:H lb=some (.lst ys)) (ne:l≠lb) (g:SameX lb H H') (h:Ned K H0 H T r l es dn):Ned K H0 H' T r l es dn :=
  ⟨g _ _ ne h.l,h.fl,h.len,h.inj,h.fr,fun i e he=>⟨g _ _ (ne_of (h.at' i e he).1 hl (fun z=>nomatch z)) (h.at' i e he).1,(h.at' i e he).2⟩,fun i e c he hc p hp=>⟨(h.ok i e c he hc p hp).1.mono (sxl hl g),(h.ok i e c he hc p hp).2⟩,h.dn⟩
theorem Rd.frz {H:Hp} {d x:Addr} {o:Obj} {kvs k:List (Key × V)} (hd:H d=some (.dK kvs)) (h:Rd H x (.dK k)):Rd (upd H d (.frz o (.dK kvs))) x (.dK k):=by
  by_cases e:x=d
  · subst e
    rcases h with h | ⟨ob,h⟩
    · rw [hd] at h
      cases h
      exact .inr ⟨o,upd_same⟩
    · rw [hd] at h;cases h
  · rcases h with h | ⟨ob,h⟩
    · exact .inl (by rw [upd_ne e];exact h)
    · exact .inr ⟨ob,by rw [upd_ne e];exact h⟩
def kvO:List Int→List V→List (Key × V)
  | m :: ms,v :: vs=>(Sum.inl m,v) :: kvO ms vs
  | _,_=>[]
theorem kvO_val {α:Type} {R:Hp→V→α→Prop} {H:Hp} {g:Int × V × Tm→α} {m:Int}:∀ {ps:RuL} {os:List V},m ∈ ps.map (·.1)→RAll R H os (ps.map g)→∃ p ∈ ps,p.1=m∧∃ v,valV (kvO (ps.map (·.1)) os) (Sum.inl m:Key)=some v∧R H v (g p)
  | [],_,h,_=>by simp at h
  | p :: r,o :: os,h,.cons h1 h2=>by
    by_cases e:p.1=m
    · exact ⟨p,List.mem_cons_self,e,o,valV_pos (p:=((Sum.inl p.1:Key),o)) (by show (Sum.inl p.1:Key)=_;rw [e]),h1⟩
    · simp only [List.map_cons,List.mem_cons] at h
      rcases h with h | h
      · exact absurd h.symm e
      · obtain ⟨q,hq,eq,v,hv,hR⟩:=kvO_val h h2
        exact ⟨q,List.mem_cons_of_mem _ hq,eq,v,by show valV ((Sum.inl p.1,o) :: kvO (r.map (·.1)) os) _=some v;rw [valV_neg (fun z=>e (by cases z;rfl)),hv],hR⟩
theorem kvO_map {ps:RuL}:∀ (ts:List (Addr × Key × V)),ts.map (fun t=>t.2.1)=ps.map (fun p=>(Sum.inl p.1:Key))→ts.map (fun t=>(t.2.1,t.2.2))=kvO (ps.map (·.1)) (ts.map fun t=>t.2.2):=by
  induction ps with
  | nil=>intro ts h;cases ts with
    | nil=>rfl
    | cons t r=>simp at h
  | cons p r ih=>intro ts h;cases ts with
    | nil=>simp at h
    | cons t s =>
      simp only [List.map_cons,List.cons.injEq] at h
      simp only [List.map_cons,kvO]
      rw [ih s h.2,h.1]
def TBd (T:Tu):Prop:=∀ md ∈ T.ms,∀ u ∈ md.2,lv u≤8∧sz u≤100
abbrev cvT {α:Type} (op:Lab→Int→List α→α) (dd:α) (T:Tu) (r:Tree Str):Int→Int→α:=fun m b=>(r.bs[b.toNat]?).elim dd fun c=>outT op dd T.ks T.ms c m
structure Rck {α:Type} (R:Hp→V→α→Prop) (op:Lab→Int→List α→α) (dd:α) (T:Tu) (r:Tree Str) (es:List (Addr × RuL)) (H:Hp) (rs:List Addr):Prop where
  at':∀ (j:Nat) e c D,es[j]?=some e→r.bs[j]?=some c→rs[j]?=some D→∃ os,H D=some (.dK (kvO (e.2.map (·.1)) os))∧RAll R H os (e.2.map fun p=>valT op dd T p.2.2 c)
theorem Rck.bel {α:Type} {K:PySem.W.Frag} {R:Hp→V→α→Prop} {op:Lab→Int→List α→α} {dd:α} {T:Tu} {r:Tree Str} {es:List (Addr × RuL)} {H0 H:Hp} {rs:List Addr} {l:Addr} {u:Tm} {dn:Int→Int→Prop} (h:Rck R op dd T r es H rs) (n:Ned K H0 H T r l es dn) (hl:rs.length=r.bs.length) (hdn:∀ c ∈ cls u,0≤c.2∧dn c.1 c.2):BelAt R H rs (cvT op dd T r) (cls u):=fun c hc=>by
  obtain ⟨h0,hd⟩:=hdn c hc
  obtain ⟨e,he,hm⟩:=n.dn _ _ hd
  have hb:c.2.toNat < r.bs.length:=by rw [← n.len];exact (List.getElem?_eq_some_iff.mp he).1
  have hc':r.bs[c.2.toNat]?=some r.bs[c.2.toNat]:=List.getElem?_eq_getElem hb
  generalize r.bs[c.2.toNat]=t at hc'
  have hD:rs[c.2.toNat]?=some rs[c.2.toNat]:=List.getElem?_eq_getElem (by omega)
  generalize rs[c.2.toNat]'(by omega)=D at hD
  obtain ⟨os,e1,e2⟩:=h.at' _ _ _ _ he hc' hD
  obtain ⟨p,hp,ep,v,e3,e4⟩:=kvO_val hm e2
  obtain ⟨_,⟨_,⟨md,z1,z2,_⟩,_⟩⟩:=n.ok _ _ _ he hc' p hp
  refine ⟨h0,D,_,v,hD,.inl e1,e3,?_⟩
  show R H v (cvT op dd T r c.1 c.2)
  unfold cvT
  rw [hc']
  show R H v (outT op dd T.ks T.ms t c.1)
  rw [← ep,outT_rule z1 z2]
  exact e4
def spReck {α:Type} (K:PySem.W.Frag) (e:Expr) (R:Hp→V→α→Prop) (op:Lab→Int→List α→α) (dd:α) (n:Nat):Sp:=fun vs H Q _=>∃ (tu wd lm:Addr) (sv:V) (mo:List MdT) (T:Tu) (d:Addr) (ps:RuL) (rv:V) (r:Tree Str) (f:Addr),vs=[.ref tu,.ref d,rv,.ref f]∧TurnAt K H tu wd lm sv mo T∧TurnOk mo T∧TBd T∧mo.length≤10∧RuAt K H d ps∧(ps.map (·.1)).Nodup∧ps.length≤100∧TrV K H rv r∧lv r≤n∧(∀ p ∈ ps,St T (p.2.2,r)∧lv p.2.2≤8∧sz p.2.2≤100)∧LamAt H f e ∧
  ∀ (d':Addr) (H':Hp) (os:List V),Same H H'→H' d'=some (.dK (kvO (ps.map (·.1)) os))→RAll R H' os (ps.map fun p=>valT op dd T p.2.2 r)→Q (.ref d') H'
def spOut {α:Type} (K:PySem.W.Frag) (e:Expr) (R:Hp→V→α→Prop) (op:Lab→Int→List α→α) (dd:α):Sp:=fun vs H Q _=>∃ (tu wd lm:Addr) (sv:V) (mo:List MdT) (T:Tu) (v:V) (u:Tm) (rv:V) (t:Tree Str) (f:Addr),vs=[.ref tu,v,rv,.ref f]∧TurnAt K H tu wd lm sv mo T∧TurnOk mo T∧TBd T∧mo.length≤10∧TmV K H v u∧lv u≤8∧sz u≤100∧TrV K H rv t∧lv t≤40∧St T (u,upT t)∧LamAt H f e ∧
  ∀ (v':V) (H':Hp),Same H H'→R H' v' (valT op dd T u (upT t))→Q v' H'
section
variable {P:Program} {w:World} {K:PySem.W.Frag} {mg:Str→Option Value} {base:Heap} {f:Addr} {fd:FuncData}
theorem scReck:FnScope ["turning", "rules", "tree", "make", "below", "branch", "called"] ["turning", "rules", "tree", "make"] (defScope sReck):=⟨rfl,rfl,rfl,by decide +kernel,rfl,by decide +kernel,by decide +kernel⟩
theorem ok_reck {α:Type} {e:Expr} {R:Hp→V→α→Prop} {op:Lab→Int→List α→α} {dd:α} (hR:Rep K R) {n:Nat} (F:Fun K "reckoned" "reckoned" sReck f fd) (G:Gm mg) (RB:Fn P w K mg base 10 "called_below" ["turning", "rules", "tree"] (spCB K)) (RF:Fn P w K mg base 11 "filled" ["term", "mark", "below", "make"] (spFill K e R op 8)) (RR:Fn P w K mg base (n + 12) "reckoned" ["turning", "rules", "tree", "make"] (spReck K e R op dd n)) :
    FnOk P w K mg base CX0 (n + 13) f fd ["turning", "rules", "tree", "make"] (spReck K e R op dd (n + 1)):=by
  refine F.ok scReck (fun vs H Q E h=>?_) (fun cdv A outer s H vs Q E hr h=>?_)
  · obtain ⟨tu,wd,lm,sv,mo,T,d,ps,rv,r,fm,rfl,_⟩:=h
    rfl
  obtain ⟨tu,wd,lm,sv,mo,T,d,ps,rv,r,fm,rfl,hT,hO,hTB,hm10,hru,hnd,hpl,htr,hlv,hps,hL,q⟩:=h
  refine ⟨_,(pss_cons (ps_set (i:=4) scReck.nd rfl (Or.inr rfl) (pe_lst pa_nil))
    (pss_cons (ps_for PassesOwn.never rfl (pi_zipM rfl G.zip (pa_cons (pe_ix ix_tup (pv 2) pe_int (fun _ _=>rfl)) (pa_cons (pe_fn RB hr (pa_cons (pv 0) (pa_cons (pv 1) (pa_cons (pv 2) pa_nil))) (by omega)) pa_nil))) (pg_tup rfl (pgs_cons (pg_name (i:=5) scReck.nd rfl (Or.inl rfl)) (pgs_cons (pg_name (i:=6) scReck.nd rfl (Or.inl rfl)) pgs_nil))) (pss_one
      (ps_expr (pe_bm PySem.F.plainAttrs_list PySem.F.slot_list_append PySem.F.type_list_append mt_append (pv 4) (pa_cons (pe_fn RR hr (pa_cons (pv 0) (pa_cons (pv 6) (pa_cons (pv 5) (pa_cons (pv 3) pa_nil)))) (Nat.le_refl _)) pa_nil)))))
    (pss_one (ps_melt (ps_ret (pe_callTy (call_dictK rfl) rfl G.dct PyProof.Rows.boot_dict (pa_cons (pe_lcompG (CompG.many (xs:=["mode", "rule"]) (caps:=["below", "make", "tree"]) (cap:=[4,3,2]) (cs:=[_,_,_]) rfl rfl (by decide +kernel) (by decide +kernel) (by decide +kernel) (by decide +kernel) (by decide +kernel) (by decide +kernel) rfl rfl rfl) rfl (pi_ditems (pe_bm0 PySem.F.plainAttrs_dict PySem.F.slot_dict_items PySem.F.type_dict_items mt_items (pv 1))) (pg_c2 (CompG.many (xs:=["mode", "rule"]) (caps:=["below", "make", "tree"]) (cap:=[4,3,2]) (cs:=[_,_,_]) rfl rfl (by decide +kernel) (by decide +kernel) (by decide +kernel) (by decide +kernel) (by decide +kernel) (by decide +kernel) rfl rfl rfl) rfl) (fun _ _ _ _=>pf_nil) (fun _ _ _ _=>(pe_tup (pa_cons (pv 0) (pa_cons (pe_fn RF hr (pa_cons (pv 1) (pa_cons (pe_ix (r:=rIxT K) ix_tup (pv 4) pe_int (fun _ _=>rfl)) (pa_cons (pv 2) (pa_cons (pv 3) pa_nil)))) (by omega)) pa_nil))))) pa_nil))))))),?_⟩
  cases htr with
  | @mk a b us ts name mark h1 h2 h3 h4 =>
  have hul:=h3.length
  rw [lv_bs] at hlv
  refine ⟨(by show 0≤sizeLine;decide),fun lb hlb=>?_⟩
  have g0:=same_new hlb (.lst [])
  have hlb0:upd H lb (.lst []) lb=some (.lst []):=upd_same
  generalize upd H lb (.lst [])=H0 at g0 hlb0
  have hru0:RuAt K H0 d ps:=⟨g0 _ _ hru.d,fun p hp=>(hru.t p hp).mono fun _ _=>g0.seqT⟩
  refine ⟨_,rfl,a,_,2,_,rfl,rfl,g0.seqT h1,rfl,_,rfl,_,rfl,_,rfl,?_⟩
  refine ⟨tu,wd,lm,sv,mo,T,d,ps,.ref a,.node name mark ts,rfl,hT.same g0,hO,hm10,hru0,.mk (g0.seqT h1) (g0.seqT h2) (h3.mono fun _ _=>g0.seqT) h4,hps,fun l H1 es g1 hN=>?_⟩
  have hll:l≠lb:=fun z=>by
    have:=hN.fl
    rw [z,hlb0] at this;cases this
  have g01:=g0.trans g1
  have hel:us.length=(es.map fun e=>V.ref e.1).length:=by rw [List.length_map,hN.len];exact hul
  refine ⟨b,l,us,_,rfl,g01.seqT h2,SqL.of hN.l,?_⟩
  refine for_zipM (K:=K) hel (fun i σ H'=>∃ (c5 c6:Option V) (rs:List Addr),σ=[some (.ref tu),some (.ref d),some (.ref a),some (.ref fm),some (.ref lb),c5,c6]∧Same H H'∧H' lb=some (.lst (rs.map V.ref))∧rs.length=i∧Ned K H0 H' T (.node name mark ts) l es (fun m b=>∃ p ∈ ps,(m,b) ∈ cls p.2.2)∧Rck R op dd T (.node name mark ts) es H' rs)
    ⟨none,none,[],rfl,g01,g1 _ _ hlb0,rfl,hN,⟨fun j e c D _ _ h=>by simp at h⟩⟩ ?_ ?_ ?_
  · rintro i σ H' _ ⟨_,_,_,_,g,_,_,hN',_⟩
    exact ⟨g.seqT h2,SqL.of hN'.l⟩
  · rintro i u v p σ H2 hu hv hp ⟨c5,c6,rs,rfl,g2,hlb2,hrl,hN2,hK2⟩
    have k:=same_new hp (.tup [u,v])
    have hpt:upd H2 p (.tup [u,v]) p=some (.tup [u,v]):=upd_same
    have hlb3:=k _ _ hlb2
    have hN3:=hN2.same k
    have g3:=g2.trans k
    have hK3:Rck R op dd T (.node name mark ts) es (upd H2 p (.tup [u,v])) rs:=⟨fun j e c D he hc hD=>by
      obtain ⟨os,e1,e2⟩:=hK2.at' j e c D he hc hD
      exact ⟨os,k _ _ e1,e2.imp fun h=>hR _ _ _ _ (fun _ _=>k.seqT) h⟩⟩
    generalize upd H2 p (.tup [u,v])=H3 at hpt hlb3 hN3 g3 hK3
    have hil:i < ts.length:=by
      have:=(List.getElem?_eq_some_iff.mp hu).1
      omega
    have hci:ts[i]?=some ts[i]:=List.getElem?_eq_getElem hil
    generalize ts[i]=c at hci
    obtain ⟨u',hu',hc3⟩:=h3.get hci
    obtain rfl:u'=u:=Option.some.inj (hu'.symm.trans hu)
    obtain ⟨e',he,rfl⟩ : ∃ e',es[i]?=some e'∧V.ref e'.1=v:=by
      rw [List.getElem?_map] at hv
      cases h:es[i]? with
      | none=>rw [h] at hv;cases hv
      | some x=>rw [h] at hv;exact ⟨x,rfl,Option.some.inj hv⟩
    have hcb:(Tree.node name mark ts:Tree Str).bs[i]?=some c:=hci
    have hok:=hN3.ok i e' c he hcb
    have hat:=hN3.at' i e' he
    have hlc:lv c≤n:=by
      have:=lv_le (List.mem_of_getElem? hcb)
      omega
    have hmem:∀ p ∈ e'.2,0≤p.1∧p.1 < ((mo.length:Nat):Int):=fun p hp=>by
      obtain ⟨_,⟨mm,⟨md',z,_⟩,_⟩⟩:=hok p hp
      have z1:=(List.getElem?_eq_some_iff.mp z).1
      have z2:mo.length=T.ms.length:=by rw [← hO.me];simp [mds]
      omega
    have hfw:e'.2.length≤10:=by
      have h1:=few (n:=mo.length) (fs:=e'.2.map (·.1)) hat.2 fun m' hm'=>by
        obtain ⟨p',hp',rfl⟩:=List.mem_map.mp hm'
        exact hmem p' hp'
      rw [List.length_map] at h1
      omega
    refine ⟨p,_,rfl,SqT.of hpt,rfl,_,_,rfl,_,_,rfl,rfl,?_⟩
    refine ⟨_,rfl,.inl ⟨rfl,_,SqL.of hlb3⟩,_,rfl,_,rfl,_,rfl,_,rfl,?_⟩
    refine ⟨tu,wd,lm,sv,mo,T,e'.1,e'.2,u',c,fm,rfl,hT.same g3,hO,hTB,hm10,⟨hat.1,fun p hp=>(hok p hp).1⟩,hat.2,by omega,hc3.mono fun _ _=>g3.seqT,hlc,fun p hp=>?_,hL.same g3,fun D H4 os g4 hD hos=>?_⟩
    · obtain ⟨_,⟨_,⟨md,z1,_,z3⟩,z4⟩⟩:=hok p hp
      obtain ⟨y1,y2⟩:=hTB md (List.mem_of_getElem? z1) _ z3
      exact ⟨z4,y1,y2⟩
    have hlb4:=g4 _ _ hlb3
    refine ⟨lb,_,_,rfl,rfl,hlb4,by rw [List.length_map,size_line];omega,?_⟩
    have gx:SameX lb H4 (upd H4 lb (.lst (rs.map V.ref ++ [.ref D]))):=SameX.upd
    refine ⟨_,_,rs ++ [D],rfl,fun x u e=>?_,by rw [upd_same];simp,by simp [hrl],(hN3.same g4).sx hlb4 hll gx,⟨fun j e c' D' he' hc' hD'=>?_⟩⟩
    · rw [upd_ne (ne_of_none e hlb)];exact g4 _ _ (g3 _ _ e)
    · rw [List.getElem?_append] at hD'
      split at hD'
      · obtain ⟨os',e1,e2⟩:=hK3.at' j e c' D' he' hc' hD'
        have e1':=g4 _ _ e1
        exact ⟨os',gx _ _ (ne_of e1' hlb4 (fun z=>nomatch z)) e1',e2.imp fun h=>hR _ _ _ _ (fun _ _ h=>sxl hlb4 gx _ _ (g4.seqT h)) h⟩
      · have hjl:=(List.getElem?_eq_some_iff.mp hD').1
        simp only [List.length_singleton] at hjl
        have ej:j=i:=by omega
        subst ej
        obtain rfl:e=e':=Option.some.inj (he'.symm.trans he)
        obtain rfl:c'=c:=Option.some.inj (hc'.symm.trans hcb)
        have eD:D'=D:=by
          have:=List.mem_of_getElem? hD'
          simpa using this
        subst eD
        exact ⟨os,gx _ _ (ne_of hD hlb4 (fun z=>nomatch z)) hD,hos.imp fun h=>hR _ _ _ _ (sxl hlb4 gx) h⟩
  · rintro σ H2 ⟨c5,c6,rs,rfl,g2,hlb2,hrl,hN2,hK2⟩
    have hd2:=g2 _ _ hru.d
    have hrl':rs.length=(Tree.node name mark ts:Tree Str).bs.length:=by rw [hrl];exact hul
    refine ⟨d,kvI ps,hd2,_,rfl,.inr (.inr (.inl ⟨rfl,.inl ⟨_,hd2⟩⟩)),d,kvI ps,rfl,rfl,hd2,fun pv hpv=>⟨pv,d,kvI ps,rfl,upd_same,same_new hpv _ _ _ hd2,fun o=>fun acc hacc=>?_⟩⟩
    have k:=same_new hpv (ItmO pv d)
    have hd3:=k _ _ hd2
    have g3:=g2.trans k
    have hlb3:=k _ _ hlb2
    have hN3:=hN2.same k
    have hK3:Rck R op dd T (.node name mark ts) es (upd H2 pv (ItmO pv d)) rs:=⟨fun j e c D he hc hD=>by
      obtain ⟨os,e1,e2⟩:=hK2.at' j e c D he hc hD
      exact ⟨os,k _ _ e1,e2.imp fun h=>hR _ _ _ _ (fun _ _=>k.seqT) h⟩⟩
    generalize upd H2 pv (ItmO pv d)=H3 at hd3 g3 hlb3 hN3 hK3 hacc ⊢
    have gx:SameX d H3 (upd H3 d (.frz o (.dK (kvI ps)))):=SameX.upd
    have gm:Mo K H3 (upd H3 d (.frz o (.dK (kvI ps)))):=Mo.dk hd3 gx
    have hd4:upd H3 d (.frz o (.dK (kvI ps))) d=some (.frz o (.dK (kvI ps))):=upd_same
    have hbel:∀ p ∈ ps,BelAt R (upd H3 d (.frz o (.dK (kvI ps)))) rs (cvT op dd T (.node name mark ts)) (cls p.2.2):=fun p hp c hc=>by
      obtain ⟨z0,D,kvs,v,z1,z2,z3,z4⟩:=hK3.bel hN3 hrl' (u:=p.2.2) (fun c hc=>⟨by
        obtain ⟨_,_,_,b0,_⟩:=(hps p hp).1.call hO.ok hc
        exact b0,p,hp,hc⟩) c hc
      exact ⟨z0,D,kvs,v,z1,Rd.frz hd3 z2,z3,hR _ _ _ _ gm.t z4⟩
    have hL4:LamAt (upd H3 d (.frz o (.dK (kvI ps)))) fm e:=by
      obtain ⟨qq,pm,cc,ctv,y1,y2⟩:=(hL.same g3).ex
      exact ⟨qq,pm,cc,ctv,gx _ _ (ne_of y1 hd3 (fun z=>nomatch z)) y1,gx _ _ (ne_of y2 hd3 (fun z=>nomatch z)) y2⟩
    have h14:=gm.t _ _ (g3.seqT h1)
    have hlb4:=gm.l _ _ (SqL.of hlb3)
    have ht4:∀ p ∈ ps,TmV K (upd H3 d (.frz o (.dK (kvI ps)))) p.2.1 p.2.2:=fun p hp=>(hru.t p hp).mono fun _ _ h=>gm.t _ _ (g3.seqT h)
    have gx0:SameX d H (upd H3 d (.frz o (.dK (kvI ps)))):=(SameX.of g3).trans gx
    generalize upd H3 d (.frz o (.dK (kvI ps)))=H4 at hd4 hbel hL4 h14 hlb4 ht4 gx0 hacc ⊢
    refine c2_ditems (K:=K) (d:=d) (o:=o) (kvs:=kvI ps) (cs:=[some (.ref lb),some (.ref fm),some (.ref a)]) (tt:=fun _ H Q=>Q true H) (te:=tTup (tCons (tVar 0) (tCons (tCall (spFill K e R op 8) [] E0 (tCons (tVar 1) (tCons (tOp (rIxT K) (tVar 4) (tC (.int 1))) (tCons (tVar 2) (tCons (tVar 3) tNil))))) tNil)))
      (fun i ys H'=>∃ xs:List (Addr × Key × V),ys=xs.map (fun x=>V.ref x.1)∧H' acc=some (.lst ys)∧Same H4 H'∧xs.map (fun x=>x.2.1)=(ps.take i).map (fun p=>(Sum.inl p.1:Key))∧xs.length=i∧(∀ x ∈ xs,SqT K H' x.1 [kV x.2.1,x.2.2])∧RAll R H' (xs.map fun x=>x.2.2) ((ps.take i).map fun p=>valT op dd T p.2.2 (.node name mark ts)))
      ⟨[],rfl,upd_same,same_new hacc _,rfl,rfl,fun x hx=>(nomatch hx),.nil⟩ ?_ ?_ ?_
    · rintro i ys H' _ ⟨_,_,_,g,_⟩
      exact g _ _ hd4
    · rintro i k' v p ys H5 hi hkv hp ⟨xs,rfl,hya,g5,hxk,hxl,hxa,hxr⟩
      have k5:=same_new hp (.tup [kV k',v])
      have hya6:=k5 _ _ hya
      have g6:=g5.trans k5
      have hxa6:∀ x ∈ xs,SqT K (upd H5 p (.tup [kV k',v])) x.1 [kV x.2.1,x.2.2]:=fun x hx=>k5.seqT (hxa x hx)
      have hxr6:=hxr.imp (H':=upd H5 p (.tup [kV k',v])) fun h=>hR _ _ _ _ (fun _ _=>k5.seqT) h
      generalize upd H5 p (.tup [kV k',v])=H6 at hya6 g6 hxa6 hxr6
      rw [kvI_len] at hi
      have hpi:ps[i]?=some ps[i]:=List.getElem?_eq_getElem hi
      generalize ps[i]=pp at hpi
      have hkv':(kvI ps)[i]?=some (Sum.inl pp.1,pp.2.1):=by rw [kvI,List.getElem?_map,hpi];rfl
      rw [hkv'] at hkv
      cases hkv
      have hpm:=List.mem_of_getElem? hpi
      refine iteT ⟨_,rfl,_,rfl,_,rfl,a,_,1,_,rfl,rfl,g6.seqT h14,rfl,_,rfl,_,rfl,?_⟩
      refine ⟨pp.2.1,pp.2.2,mark,lb,fm,rs,cvT op dd T (.node name mark ts),rfl,(ht4 pp hpm).mono fun _ _=>g6.seqT,(hps pp hpm).2.1,(hps pp hpm).2.2,g6.seq hlb4,(hbel pp hpm).same hR g6,hL4.same g6,fun v' H7 g7 hv'=>?_⟩
      refine ⟨(by show 2≤sizeLine;decide),fun t ht=>?_⟩
      have k8:=same_new ht (.tup [.int pp.1,v'])
      have g48:=g6.trans (g7.trans k8)
      have hya8:=k8 _ _ (g7 _ _ hya6)
      have ht8:upd H7 t (.tup [.int pp.1,v']) t=some (.tup [.int pp.1,v']):=upd_same
      have hv8:=hR _ _ _ _ (fun _ _=>k8.seqT) hv'
      have hxa8:∀ x ∈ xs,SqT K (upd H7 t (.tup [.int pp.1,v'])) x.1 [kV x.2.1,x.2.2]:=fun x hx=>k8.seqT (g7.seqT (hxa6 x hx))
      have hxr8:=hxr6.imp (H':=upd H7 t (.tup [.int pp.1,v'])) fun h=>hR _ _ _ _ (fun _ _ h=>k8.seqT (g7.seqT h)) h
      refine comp_next (ys:=xs.map fun x:Addr × Key × V=>V.ref x.1) (by rw [kvI_len];exact hi) hya8 (by rw [List.length_map];omega) ⟨xs ++ [(t,Sum.inl pp.1,v')],by simp,upd_same,fun x u e=>?_,?_,by simp [hxl],fun x hx=>?_,?_⟩
      · rw [upd_ne (ne_of_none e hacc)];exact g48 _ _ e
      · rw [List.map_append,hxk,List.take_add_one,hpi];simp
      · rcases List.mem_append.mp hx with hx | hx
        · exact (hxa8 x hx).put hya8
        · have ex:x=(t,Sum.inl pp.1,v'):=by simpa using hx
          subst ex
          exact (SqT.of ht8).put hya8
      · rw [List.take_add_one,hpi]
        show RAll R _ ((xs ++ [(t,(Sum.inl pp.1:Key),v')]).map fun x=>x.2.2) ((ps.take i ++ [pp]).map fun p=>valT op dd T p.2.2 (.node name mark ts))
        rw [List.map_append,List.map_append]
        exact RAll.append (hxr8.imp fun h=>hR _ _ _ _ (fun _ _ h=>h.put hya8) h) (.cons (hR _ _ _ _ (fun _ _ h=>h.put hya8) hv8) .nil)
    · rintro ys H5 ⟨xs,rfl,hya,g5,hxk,hxl,hxa,hxr⟩
      rw [kvI_len] at hxl
      rw [kvI_len,List.take_of_length_le (Nat.le_refl _)] at hxk hxr
      refine ⟨acc,xs,rfl,SqL.of hya,hxa,?_,by omega,fun d' hd'=>?_⟩
      · have ee:ps.map (fun p=>(Sum.inl p.1:Key))=(ps.map (·.1)).map (fun m=>(Sum.inl m:Key)):=by rw [List.map_map];rfl
        rw [hxk,ee]
        exact List.Pairwise.map _ (fun a b hab z=>hab (by cases z;rfl)) hnd
      have k6:=same_new hd' (.dK (xs.map fun t=>(t.2.1,t.2.2)))
      have hd6:=k6 _ _ (g5 _ _ hd4)
      refine ⟨⟨o,hd6⟩,q d' _ (xs.map fun x=>x.2.2) (fun x u e=>?_) ?_ ?_⟩
      · by_cases z:x=d
        · subst z
          rw [hru.d] at e
          rw [← e]
          exact upd_same
        · rw [upd_ne z];exact k6 _ _ (g5 _ _ (gx0 _ _ z e))
      · have hne:d'≠d:=fun z=>by rw [z,g5 _ _ hd4] at hd';cases hd'
        rw [upd_ne hne,upd_same,kvO_map (ps:=ps) xs hxk]
      · have gm6:Mo K (upd H5 d' (.dK (xs.map fun t=>(t.2.1,t.2.2)))) (upd (upd H5 d' (.dK (xs.map fun t=>(t.2.1,t.2.2)))) d (.dK (kvI ps))):=Mo.fz hd6 SameX.upd
        exact hxr.imp fun h=>hR _ _ _ _ (fun _ _ h=>gm6.t _ _ (k6.seqT h)) h
end
end K26
namespace K26
open PySem L2 TM TT K9 K11
section
variable {P:Program} {w:World} {K:PySem.W.Frag} {mg:Str→Option Value} {base:Heap} {f:Addr} {fd:FuncData}
theorem none_reck {α:Type} {e:Expr} {R:Hp→V→α→Prop} {op:Lab→Int→List α→α} {dd:α} {k:Nat}:FnOk P w K mg base CX0 k f fd ["turning", "rules", "tree", "make"] (spReck K e R op dd 0):=by
  have no:∀ vs H Q E,¬ spReck K e R op dd 0 vs H Q E:=fun vs H Q E h=>by
    obtain ⟨tu,wd,lm,sv,mo,T,d,ps,rv,r,fm,_,_,_,_,_,_,_,_,_,h0,_⟩:=h
    rw [lv_bs] at h0;omega
  exact ⟨fun vs H Q E h=>absurd h (no vs H Q E),fun A outer s H args us vs Q E _ _ _ _ h=>absurd h (no vs H Q E)⟩
theorem all_reck {α:Type} {e:Expr} {R:Hp→V→α→Prop} {op:Lab→Int→List α→α} {dd:α} (hR:Rep K R) (F:Fun K "reckoned" "reckoned" sReck f fd) (G:Gm mg) (RB:Fn P w K mg base 10 "called_below" ["turning", "rules", "tree"] (spCB K)) (RF:Fn P w K mg base 11 "filled" ["term", "mark", "below", "make"] (spFill K e R op 8)) (hb:Binds K fd ["turning", "rules", "tree", "make"] []) (hm:mg "reckoned" = some (.ref f)):∀ n:Nat,FnOk P w K mg base CX0 (n + 12) f fd ["turning", "rules", "tree", "make"] (spReck K e R op dd n)
  | 0=>none_reck
  | n + 1=>ok_reck hR F G RB RF ⟨f,fd,all_reck hR F G RB RF hb hm n,hb,F.kp,hm⟩
theorem scOut:FnScope ["turning", "term", "tree", "make"] ["turning", "term", "tree", "make"] (defScope sOut):=⟨rfl,rfl,rfl,by decide +kernel,rfl,by decide +kernel,by decide +kernel⟩
theorem ok_out {α:Type} {e:Expr} {R:Hp→V→α→Prop} {op:Lab→Int→List α→α} {dd:α} (F:Fun K "outcome" "outcome" sOut f fd) (RA:Fn P w K mg base 1 "above" ["tree"] (spAbove K)) (RK:Fn P w K mg base 53 "reckoned" ["turning", "rules", "tree", "make"] (spReck K e R op dd 41)):FnOk P w K mg base CX0 54 f fd ["turning", "term", "tree", "make"] (spOut K e R op dd):=by
  refine F.ok scOut (fun vs H Q E h=>?_) (fun cdv A outer s H vs Q E hr h=>?_)
  · obtain ⟨tu,wd,lm,sv,mo,T,v,u,rv,t,fm,rfl,_⟩:=h
    rfl
  obtain ⟨tu,wd,lm,sv,mo,T,v,u,rv,t,fm,rfl,hT,hO,hTB,hm10,hv,hlu,hsu,htr,hlt,hst,hL,q⟩:=h
  refine ⟨_,(pss_one (ps_ret (pe_dget (hu_of hr) (pe_fn RK hr (pa_cons (pv 0) (pa_cons (pe_disp (pps_cons pe_int (pv 1) pps_nil) rfl rfl (by decide) (by decide)) (pa_cons (pe_fn RA hr (pa_cons (pv 2) pa_nil)) (pa_cons (pv 3) pa_nil))))) pe_int (fun _ _=>rfl)))),?_⟩
  refine ⟨_,rfl,fun d hd=>?_⟩
  have g1:=same_new hd (.dK [])
  refine ⟨_,rfl,upd_same,[(Sum.inl 0,v)],rfl,(by show 1≤15;decide),?_⟩
  have e1:mergeK ([]:List (Key × V)) [(Sum.inl 0,v)]=kvI [(0,v,u)]:=rfl
  rw [e1]
  have g2:Same H (upd (upd H d (.dK [])) d (.dK (kvI [(0,v,u)]))):=fun x y z=>by rw [upd_ne (ne_of_none z hd)];exact g1 _ _ z
  have hd2:upd (upd H d (.dK [])) d (.dK (kvI [(0,v,u)])) d=some (.dK (kvI [(0,v,u)])):=upd_same
  generalize upd (upd H d (.dK [])) d (.dK (kvI [(0,v,u)]))=H2 at g2 hd2
  refine ⟨_,rfl,rv,t,rfl,htr.mono fun _ _=>g2.seqT,fun v' H3 g3 hup=>⟨_,rfl,?_⟩⟩
  have g:=g2.trans g3
  refine ⟨tu,wd,lm,sv,mo,T,d,[(0,v,u)],v',upT t,fm,rfl,hT.same g,hO,hTB,hm10,⟨g3 _ _ hd2,fun p hp=>?_⟩,by simp,(by show 1≤100;decide),hup,by rw [lv_up];omega,fun p hp=>?_,hL.same g,fun d' H4 os g4 hd4 hos=>?_⟩
  · have:p=(0,v,u):=by simpa using hp
    rw [this]
    exact hv.mono fun _ _=>g.seqT
  · have:p=(0,v,u):=by simpa using hp
    rw [this]
    exact ⟨hst,hlu,hsu⟩
  · obtain ⟨p,hp,_,x,e2,e3⟩:=kvO_val (m:=0) (ps:=[(0,v,u)]) (by simp) hos
    have:p=(0,v,u):=by simpa using hp
    rw [this] at e3
    exact ⟨d',x,rfl,.inl ⟨_,.inl 0,.inl hd4,rfl,e2.symm⟩,q x H4 (g.trans g4) e3⟩
end
end K26
namespace L2
open PySem PySem.Spec PyProof.Rows
theorem law_callT {P:Program} {w:World} {K:PySem.W.Frag} {mg mb:Str→Option Value} {k:Nat} {fa a:Addr} {fd:FuncData} {x:Str} {sp:Sp} {s₁:Shared} {vs:List Value} {ns:List Int} {Ts:List Addr}
    (KX:K.In s₁.heap) (hns:s₁.heap.Ns mainGlobals mg) (hb:s₁.heap.Ns builtinsNs mb) (hbb:∀ x:Str,x ≠ "__name__" → mb x=bootBuiltins x) (hlim:s₁.heap.NoLimit) (hg:s₁.gens=#[]) (hbt:BtAt mg s₁.heap)
    (hTs:∀ T ∈ Ts,s₁.heap.get? T=some { cls:=.none,data:=.fields #[] }∧isCodeTable s₁.heap T∧K.lookup T=none)
    (ha:s₁.heap.get? a=some { cls:=.type "list", data:=.seq vs.toArray }) (hi:IntsAre vs ns) (hl:ns.length≤sizeLine) (hr:Room k callerA)
    (F:∀ base:Heap,K.In base→base.Ns mainGlobals mg→BtAt mg base→FnOk P w K mg base CX0 k fa fd [x] sp) (hbind:∀ (s:Shared) (u:Value),BindsTo s fd ⟨[u],[]⟩ [(x,u)])
    (hsp:∀ H:Hp,SqL K H a (ns.map V.int)→(∀ T ∈ Ts,H T=some (.tbl #[]))→sp [.ref a] H (fun v _=>v=.bl true) fun _ _ _=>False) :
    codeAny (model P w) callerA (.call (.ref fa) ⟨[.ref a],[]⟩) (fun r s'=>r=.ok (.ret (.bool true))∧OldK s₁.heap s'.heap∧s'.os=s₁.os∧AllBare s'.gens) s₁:=by
  have rv:=vals_ints hi
  have lenV:=hi.length
  have core:∀ H:Hp,(∀ b,H b=none∨(b=a∧K.lookup a=none∧∃ o xs,H b=some (.frz o (.lst xs)))∨(b ∈ Ts∧H b=some (.tbl #[])))→SqL K H a (ns.map V.int)→(∀ T ∈ Ts,H T=some (.tbl #[]))→HOk P w H s₁.heap →
      codeAny (model P w) callerA (.call (.ref fa) ⟨[.ref a],[]⟩) (fun r s'=>r=.ok (.ret (.bool true))∧OldK s₁.heap s'.heap∧s'.os=s₁.os∧AllBare s'.gens) s₁:=by
    intro H hO hS hT hok
    have base_of:∀ {b:Addr} {o:Obj},s₁.heap.get? b=some o→H b=none→(hidT s₁.heap H).get? b=some o:=fun e n=>hidT_get e n
    have noA:∀ {b:Addr} {o:Obj},s₁.heap.get? b=some o→(∀ xs n,o.data≠.seq xs n)→(∀ xs,o.data≠.fields xs)→H b=none:=fun {b o} e d1 d2=>by
      rcases hO b with z | ⟨rfl,_⟩ | ⟨z,_⟩
      · exact z
      · rw [ha] at e;cases e
        exact absurd rfl (d1 _ _)
      · rw [(hTs b z).1] at e;cases e
        exact absurd rfl (d2 _)
    have nsK:∀ {b:Addr} {m:Str→Option Value},s₁.heap.Ns b m→(hidT s₁.heap H).Ns b m:=fun {b m} ⟨o,es,ep,e,d,r⟩=>⟨o,es,ep,base_of e (noA e (fun _ _ z=>by rw [d] at z;cases z) (fun _ z=>by rw [d] at z;cases z)),d,r⟩
    have hKb:K.In (hidT s₁.heap H):=fun b o e=>base_of (KX b o e) (by
      rcases hO b with z | ⟨rfl,hk,_⟩ | ⟨z,_⟩
      · exact z
      · rw [hk] at e;cases e
      · rw [(hTs b z).2.2] at e;cases e)
    have hBt:BtAt mg (hidT s₁.heap H):=by
      obtain ⟨bm,o,b1,b2,b3,b4,b5,b6,b7⟩:=hbt
      exact ⟨bm,o,b1,b2,b3,base_of b4 (noA b4 (fun _ _ z=>by rw [b7] at z;cases z) (fun _ z=>by rw [b7] at z;cases z)),b5,b6,b7⟩
    have hM:Mod K mg (hidT s₁.heap H):=⟨hKb,nsK hns,⟨mb,nsK hb,hbb⟩,let ⟨mc,h1,h2⟩:=hlim;⟨mc,nsK h1,h2⟩⟩
    have e0:Env0 P w K mg (hidT s₁.heap H) callerA [] s₁ H:=⟨rfl,hM,fun b o e=>of_hidT e,Nat.le_of_eq (hidT_size _ _),trivial,fun b hb=>absurd (show b ∈ ([]:List Addr) from hb) (by simp),hok,.of_eq hg⟩
    refine codeAny_mono ((F _ hKb (nsK hns) hBt).run callerA [] s₁ H ⟨[.ref a],[]⟩ [.ref a] [.ref a] _ _ hr e0 (hbind s₁ (.ref a)) (.cons rfl .nil) (hsp H hS hT)) fun r s' h=>?_
    cases r with
    | error e=>exact h.elim
    | ok fl =>
      cases fl with
      | next=>exact False.elim h
      | brk=>exact False.elim h
      | cont=>exact False.elim h
      | ret u =>
        obtain ⟨v,H',os,bare,un,hok',r',q⟩:=h
        have q':v=.bl true:=q
        subst q'
        obtain rfl:u=Value.bool true:=r'
        refine ⟨rfl,⟨fun b o e=>?_,fun b o e=>un.there b o e (by simp)⟩,os,bare⟩
        rcases hO b with z | ⟨rfl,_,ob,xs,z⟩ | ⟨zT,z⟩
        · exact .inl (un.keep b o e z (by intro z;exact absurd (show b ∈ ([]:List Addr) from z) (by simp)) (by simp))
        · have z2:=un.frzs b ob _ z
          obtain ⟨e1,_⟩:=hok b _ z
          obtain ⟨e2,_⟩:=hok' b _ z2
          rw [e] at e1;cases e1
          exact .inl e2
        · obtain ⟨more,z2⟩:=un.tbls b _ z
          have e2:s'.heap.get? b=some { cls:=.none,data:=.fields (#[] ++ more) }:=hok' b _ z2
          obtain ⟨t1,t2,_⟩:=hTs b zT
          rw [t1] at e;cases e
          exact .inr (.inl ⟨t2,rfl,#[],more,rfl,e2⟩)
  have haT:∀ T ∈ Ts,T≠a:=fun T hT z=>by
    have:=(hTs T hT).1
    rw [z,ha] at this;cases this
  cases hk:K.lookup a with
  | some o =>
    have e:=KX a o hk
    rw [ha] at e
    cases e
    refine core (fun b=>if b ∈ Ts then some (.tbl #[]) else none) (fun b=>?_) (.inr ⟨_,vs.toArray,_,hk,rfl,rfl,rfl,by rw [List.size_toArray,lenV];exact hl,by simpa using rv⟩) (fun T hT=>if_pos hT) (fun b u z=>?_)
    · by_cases hb:b ∈ Ts
      · exact .inr (.inr ⟨hb,if_pos hb⟩)
      · exact .inl (if_neg hb)
    · by_cases hb:b ∈ Ts
      · have z':=(if_pos hb).symm.trans z
        cases z'
        exact (hTs b hb).1
      · have z':=(if_neg hb).symm.trans z
        cases z'
  | none =>
    refine core (fun b=>if b=a then some (.frz { cls:=.type "list", data:=.seq vs.toArray } (.lst (ns.map V.int))) else if b ∈ Ts then some (.tbl #[]) else none) (fun b=>?_) (.inl (.inr ⟨{ cls:=.type "list", data:=.seq vs.toArray },if_pos rfl⟩)) (fun T hT=>(if_neg (haT T hT)).trans (if_pos hT)) (fun b u z=>?_)
    · by_cases hb:b=a
      · exact .inr (.inl ⟨hb,hk,_,_,if_pos hb⟩)
      · by_cases hbT:b ∈ Ts
        · exact .inr (.inr ⟨hbT,(if_neg hb).trans (if_pos hbT)⟩)
        · exact .inl ((if_neg hb).trans (if_neg hbT))
    · by_cases hb:b=a
      · have z':=(if_pos hb).symm.trans z
        cases z'
        subst hb
        exact ⟨ha,by rw [List.length_map];exact hl,vs,_,rv,ha⟩
      · have z1:=(if_neg hb).symm.trans z
        by_cases hbT:b ∈ Ts
        · have z':=(if_pos hbT).symm.trans z1
          cases z'
          exact (hTs b hbT).1
        · have z':=(if_neg hbT).symm.trans z1
          cases z'
structure TabAt (q:Program) (K:PySem.W.Frag) (x:Str) (c T:Addr):Prop where
  fnd:∃ d,(recsOf q).find? (fun e=>e.name == x)=some d
  tab:PySem.W.tabIn K x=some (c,T)
  hd:PySem.W.codeHdIn K c T=true
  no:K.lookup T=none
theorem walk_ofT {l:PySem.W.OpenLaw} {n k:Nat} {q:Program} {loose:List Str} {XP:(Str→Option Value)→Heap→Prop} {YP:World→Heap→Prop} {d:DefRec} {K:Params→PySem.W.Frag} {sp:World→Sp} {x:Str} {tabs:List (Str × Addr × Addr)}
    (hn:l.most=some n) (hn2:n≤sizeLine) (hdf:d.params.defaults=[]) (hr:Room k callerA)
    (hY:∀ (w:World) (h:Heap),YP w h→(K w.params).In h)
    (htab:∀ (w:World),∀ p ∈ tabs,TabAt q (K w.params) p.1 p.2.1 p.2.2)
    (F:∀ (w:World) (mg:Str→Option Value) (fa:Addr) (h:Heap),(K w.params).In h→h.Ns mainGlobals mg→mg d.name=some (.ref fa) →
      ∃ fd:FuncData,(∀ (s:Shared) (u:Value),BindsTo s fd ⟨[u],[]⟩ [(x,u)]) ∧
        ∀ base:Heap,(K w.params).In base→base.Ns mainGlobals mg→BtAt mg base→FnOk l.prog w (K w.params) mg base CX0 k fa fd [x] (sp w))
    (hsp:∀ (w:World) (H:Hp) (a:Addr) (ns:List Int),ns.length≤n→SqL (K w.params) H a (ns.map V.int)→(∀ p ∈ tabs,H p.2.2=some (.tbl #[]))→sp w [.ref a] H (fun v _=>v=.bl true) fun _ _ _=>False) :
    PySem.W.WalkO q loose XP YP l.row.toRowW d [] (fun f vs=>PySem.call f vs):=by
  refine Att.attach_call hn hdf fun w s₀ s₁ mg mb fa o pm cd doc a vs ns G Y ho hd hcd hmg hobj hints hlen hg=>?_
  have KX:=hY w _ Y
  obtain ⟨fd,hb,hF⟩:=F w mg fa _ KX G.T.g hmg
  have hbt:BtAt mg s₁.heap:=by
    obtain ⟨bm,ob,b1,b2,b3,b4,b5,b6⟩:=G.T.bmain
    have hbG:bm≠mainGlobals:=fun q=>by
      obtain ⟨o,es,ep,e,hd,_⟩:=G.T.g
      rw [q,e] at b3;cases b3;rw [hd] at b6;cases b6
    exact ⟨bm,ob,b1,b2,hbG,b3,b4,b5,b6⟩
  refine law_callT (Ts:=tabs.map fun p=>p.2.2) KX G.T.g G.T.b G.T.builtins G.T.nolimit hg hbt (fun T hT=>?_) hobj hints (Nat.le_trans hlen hn2) hr hF hb (fun H hS hT=>hsp w H a ns hlen hS fun p hp=>hT _ (List.mem_map.mpr ⟨p,hp,rfl⟩))
  obtain ⟨p,hp,rfl⟩:=List.mem_map.mp hT
  obtain ⟨⟨dd,hrec⟩,ht,_,hno⟩:=htab w p hp
  obtain ⟨hc,h0⟩:=PySem.W.tab_of G.T KX hrec ht
  exact ⟨h0,(hc.tab h0).isCodeTable,hno⟩
end L2
namespace K26
open PySem L2 TM TT K9 K11
abbrev eM:Expr:=argOf (retOf sManyBy) 3
abbrev eT:Expr:=argOf (retOf sTallBy) 3
abbrev qM:Str:=(PyProof.Rows.envOfC "many_by" (defScope sManyBy) 0 0 .none).qual ++ "<lambda>"
abbrev qT:Str:=(PyProof.Rows.envOfC "tall_by" (defScope sTallBy) 0 0 .none).qual ++ "<lambda>"
def RN (_:Hp) (v:V) (a:Nat):Prop:=v=.int (a:Int)
theorem rep_N {K:PySem.W.Frag}:Rep K RN:=fun _ _ _ _ _ h=>h
def opM (_:Lab) (_:Int) (xs:List Nat):Nat:=1 + xs.sum
def opT (_:Lab) (_:Int) (xs:List Nat):Nat:=1 + xs.foldl max 0
theorem rn_ints {H:Hp}:∀ {ys:List V} {xs:List Nat},RAll RN H ys xs→ys=(xs.map fun a=>((a:Nat):Int)).map V.int
  | _,_,.nil=>rfl
  | _,_,.cons (v:=v) h t=>by
    have h':v=_:=h
    rw [h',rn_ints t];rfl
theorem sum_ints:∀ xs:List Nat,(xs.map fun a=>((a:Nat):Int)).sum=((xs.sum:Nat):Int)
  | []=>rfl
  | x :: r=>by
    have:=sum_ints r
    simp only [List.map_cons,List.sum_cons];omega
theorem foldl_ge:∀ (xs:List Nat) (a:Nat),a≤xs.foldl max a∧(∀ x ∈ xs,x≤xs.foldl max a)∧(xs.foldl max a=a∨xs.foldl max a ∈ xs)
  | [],a=>⟨Nat.le_refl _,fun _ h=>(nomatch h),.inl rfl⟩
  | x :: r,a=>by
    obtain ⟨h1,h2,h3⟩:=foldl_ge r (max a x)
    simp only [List.foldl_cons]
    refine ⟨by omega,fun y hy=>?_,?_⟩
    · rcases List.mem_cons.mp hy with rfl | hy
      · omega
      · exact h2 y hy
    · rcases h3 with h3 | h3
      · rw [h3]
        rcases Nat.le_total a x with z | z
        · rw [Nat.max_eq_right z];exact .inr List.mem_cons_self
        · rw [Nat.max_eq_left z];exact .inl rfl
      · exact .inr (List.mem_cons_of_mem _ h3)
section
variable {P:Program} {w:World} {K:PySem.W.Frag} {mg:Str→Option Value} {base:Heap} {f:Addr} {fd:FuncData}
theorem scLM:FnScope ["put", "mark", "parts"] ["put", "mark", "parts"] (lamScope eM):=⟨rfl,rfl,rfl,by decide +kernel,rfl,by decide +kernel,by decide +kernel⟩
theorem scLT:FnScope ["put", "mark", "parts"] ["put", "mark", "parts"] (lamScope eT):=⟨rfl,rfl,rfl,by decide +kernel,rfl,by decide +kernel,by decide +kernel⟩
theorem len3 {us:List Value} (h:us.length=3):∃ a b c,us=[a,b,c]:=by
  match us,h with
  | [a,b,c],_=>exact ⟨a,b,c,rfl⟩
theorem lam_many (G:Gm mg):CalV P w K mg base 2 eM (spMk K RN opM):=by
  refine lam_run scLM (fun vs H Q E h=>?_) (fun qual pm c ctv us h=>?_) (fun qual f c A outer s H vs Q E hr h=>?_)
  · obtain ⟨v,u,mk,lp,ys,xs,rfl,_⟩:=h
    rfl
  · obtain ⟨a,b,d,rfl⟩:=len3 h
    rfl
  · obtain ⟨v,u,mk,lp,ys,xs,rfl,_,_,hl,hx,_,q⟩:=h
    refine ⟨_,pe_op op_add pe_int (pe_callB (call_sumG rfl) rfl G.sum PyProof.Rows.boot_sum (pa_cons (pv 2) pa_nil)),?_⟩
    have e:=rn_ints hx
    subst e
    refine ⟨_,rfl,lp,_,rfl,SqL.of hl,_,_,rfl,rfl,q _ H (Same.refl _) ?_⟩
    show V.int _=V.int _
    rw [sum_ints]
    unfold opM
    congr 1
theorem lam_tall (G:Gm mg):CalV P w K mg base 2 eT (spMk K RN opT):=by
  refine lam_run scLT (fun vs H Q E h=>?_) (fun qual pm c ctv us h=>?_) (fun qual f c A outer s H vs Q E hr h=>?_)
  · obtain ⟨v,u,mk,lp,ys,xs,rfl,_⟩:=h
    rfl
  · obtain ⟨a,b,d,rfl⟩:=len3 h
    rfl
  · obtain ⟨v,u,mk,lp,ys,xs,rfl,_,_,hl,hx,_,q⟩:=h
    refine ⟨_,pe_op op_add pe_int (pe_callBK (call_maxd rfl) rfl G.max PyProof.Rows.boot_max (pa_cons (pv 2) pa_nil) (pk_cons pe_int pk_nil)),?_⟩
    have e:=rn_ints hx
    subst e
    refine ⟨_,rfl,lp,_,_,rfl,rfl,SqL.of hl,fun hn=>?_,fun M hM hle=>?_⟩
    · have:xs=[]:=by simpa using hn
      subst this
      exact ⟨_,_,rfl,rfl,q _ H (Same.refl _) rfl⟩
    · refine ⟨_,_,rfl,rfl,q _ H (Same.refl _) ?_⟩
      show V.int _=V.int _
      unfold opT
      obtain ⟨h1,h2,h3⟩:=foldl_ge xs 0
      obtain ⟨x,hx,rfl⟩:=List.mem_map.mp hM
      have a1:=h2 x hx
      have a2:xs.foldl max 0≤x:=by
        rcases h3 with h3 | h3
        · omega
        · have:=hle _ (List.mem_map.mpr ⟨_,h3,rfl⟩)
          omega
      congr 1
      omega
def spBy (K:PySem.W.Frag) (T0:Addr) (e:Expr) (qual:Str) (op:Lab→Int→List Nat→Nat):Sp:=fun vs H Q _=>∃ (tu wd lm:Addr) (sv:V) (mo:List MdT) (T:Tu) (v:V) (u:Tm) (rv:V) (t:Tree Str),vs=[.ref tu,v,rv]∧TurnAt K H tu wd lm sv mo T∧TurnOk mo T∧TBd T∧mo.length≤10∧TmV K H v u∧lv u≤8∧sz u≤100∧TrV K H rv t∧lv t≤40∧St T (u,upT t)∧TbS H T0 (lamPos e) qual ∧
  ∀ H':Hp,SameX T0 H H'→TbS H' T0 (lamPos e) qual→Q (.int ((valT op 0 T u (upT t):Nat):Int)) H'
def spTell (K:PySem.W.Frag) (T0:Addr) (e:Expr) (qual:Str) (op:Lab→Int→List Nat→Nat):Sp:=fun vs H Q _=>∃ (tu wd lm:Addr) (sv:V) (mo:List MdT) (T:Tu) (rv:V) (t:Tree Str),vs=[.ref tu,rv]∧TurnAt K H tu wd lm sv mo T∧TurnOk mo T∧TBd T∧mo.length≤10∧lv T.start≤8∧sz T.start≤100∧TrV K H rv t∧lv t≤40∧isT (rowK T.ks) t T.k0=true∧TbS H T0 (lamPos e) qual ∧
  ∀ H':Hp,SameX T0 H H'→TbS H' T0 (lamPos e) qual→Q (.int ((valT op 0 T T.start (upT t):Nat):Int)) H'
theorem Mo.tb {K:PySem.W.Frag} {H H':Hp} {T0:Addr} {ps:Array Value} (h:H T0=some (.tbl ps)) (g:SameX T0 H H'):Mo K H H':=Mo.sx h (fun _ z=>nomatch z) (fun _ z=>nomatch z) (fun _ _ z=>nomatch z) (fun _ _ z=>nomatch z) g
theorem scManyBy:FnScope ["turning", "term", "tree"] ["turning", "term", "tree"] (defScope sManyBy):=⟨rfl,rfl,rfl,by decide +kernel,rfl,by decide +kernel,by decide +kernel⟩
theorem scTallBy:FnScope ["turning", "term", "tree"] ["turning", "term", "tree"] (defScope sTallBy):=⟨rfl,rfl,rfl,by decide +kernel,rfl,by decide +kernel,by decide +kernel⟩
theorem scMany:FnScope ["turning", "tree"] ["turning", "tree"] (defScope sMany):=⟨rfl,rfl,rfl,by decide +kernel,rfl,by decide +kernel,by decide +kernel⟩
theorem scTall:FnScope ["turning", "tree"] ["turning", "tree"] (defScope sTall):=⟨rfl,rfl,rfl,by decide +kernel,rfl,by decide +kernel,by decide +kernel⟩
theorem ok_manyBy {c T0:Addr} (F:Fun K "many_by" "many_by" sManyBy f fd) (hn:PySem.W.nsIn K mainGlobals "many_by" = some (some (.ref f))) (hT:PySem.W.tabIn K "many_by" = some (c,T0)) (hC:PySem.W.codeHdIn K c T0=true) (hB:BtAt mg base) (RO:Fn P w K mg base 54 "outcome" ["turning", "term", "tree", "make"] (spOut K eM RN opM 0)):FnOk P w K mg base CX0 55 f fd ["turning", "term", "tree"] (spBy K T0 eM qM opM):=by
  refine Fun.okC F hn hT scManyBy (fun vs H Q E h=>?_) (fun A outer s H vs Q E hr h=>?_)
  · obtain ⟨tu,wd,lm,sv,mo,T,v,u,rv,t,rfl,_⟩:=h
    rfl
  obtain ⟨tu,wd,lm,sv,mo,T,v,u,rv,t,rfl,hTu,hO,hTB,hm10,hv,hlu,hsu,htr,hlt,hst,htb,q⟩:=h
  refine ⟨_,(pss_one (ps_ret (pe_fn RO hr (pa_cons (pv 0) (pa_cons (pv 1) (pa_cons (pv 2) (pa_cons (pe_lam (c:=c) (T:=T0) rfl hC hB) pa_nil))))))),?_⟩
  obtain ⟨ps,hps⟩:=htb.at
  refine ⟨_,rfl,_,rfl,_,rfl,htb,fun fm H1 g1 _ hL htb1=>?_⟩
  have gm:Mo K H H1:=Mo.tb hps g1
  exact ⟨tu,wd,lm,sv,mo,T,v,u,rv,t,fm,rfl,gm.turn hTu,hO,hTB,hm10,hv.mono gm.t,hlu,hsu,htr.mono gm.t,hlt,hst,hL,fun v' H2 g2 hv'=>by
    have hv'':v'=.int ((valT opM 0 T u (upT t):Nat):Int):=hv'
    subst hv''
    exact q H2 (g1.trans (SameX.of g2)) (htb1.same g2)⟩
theorem ok_tallBy {c T0:Addr} (F:Fun K "tall_by" "tall_by" sTallBy f fd) (hn:PySem.W.nsIn K mainGlobals "tall_by" = some (some (.ref f))) (hT:PySem.W.tabIn K "tall_by" = some (c,T0)) (hC:PySem.W.codeHdIn K c T0=true) (hB:BtAt mg base) (RO:Fn P w K mg base 54 "outcome" ["turning", "term", "tree", "make"] (spOut K eT RN opT 0)):FnOk P w K mg base CX0 55 f fd ["turning", "term", "tree"] (spBy K T0 eT qT opT):=by
  refine Fun.okC F hn hT scTallBy (fun vs H Q E h=>?_) (fun A outer s H vs Q E hr h=>?_)
  · obtain ⟨tu,wd,lm,sv,mo,T,v,u,rv,t,rfl,_⟩:=h
    rfl
  obtain ⟨tu,wd,lm,sv,mo,T,v,u,rv,t,rfl,hTu,hO,hTB,hm10,hv,hlu,hsu,htr,hlt,hst,htb,q⟩:=h
  refine ⟨_,(pss_one (ps_ret (pe_fn RO hr (pa_cons (pv 0) (pa_cons (pv 1) (pa_cons (pv 2) (pa_cons (pe_lam (c:=c) (T:=T0) rfl hC hB) pa_nil))))))),?_⟩
  obtain ⟨ps,hps⟩:=htb.at
  refine ⟨_,rfl,_,rfl,_,rfl,htb,fun fm H1 g1 _ hL htb1=>?_⟩
  have gm:Mo K H H1:=Mo.tb hps g1
  exact ⟨tu,wd,lm,sv,mo,T,v,u,rv,t,fm,rfl,gm.turn hTu,hO,hTB,hm10,hv.mono gm.t,hlu,hsu,htr.mono gm.t,hlt,hst,hL,fun v' H2 g2 hv'=>by
    have hv'':v'=.int ((valT opT 0 T u (upT t):Nat):Int):=hv'
    subst hv''
    exact q H2 (g1.trans (SameX.of g2)) (htb1.same g2)⟩
theorem ok_many {T0:Addr} (F:Fun K "many" "many" sMany f fd) (RN':Fn P w K mg base 44 "need_in" ["wood", "tree"] (spNeedIn K)) (RB:Fn P w K mg base 55 "many_by" ["turning", "term", "tree"] (spBy K T0 eM qM opM)):FnOk P w K mg base CX0 56 f fd ["turning", "tree"] (spTell K T0 eM qM opM):=by
  refine F.ok scMany (fun vs H Q E h=>?_) (fun cdv A outer s H vs Q E hr h=>?_)
  · obtain ⟨tu,wd,lm,sv,mo,T,rv,t,rfl,_⟩:=h
    rfl
  obtain ⟨tu,wd,lm,sv,mo,T,rv,t,rfl,hT,hO,hTB,hm10,hls,hss,htr,hlt,his,htb,q⟩:=h
  refine ⟨_,(pss_cons (ps_expr (pe_fn RN' hr (pa_cons (pe_ix ix_tup (pv 0) pe_int (fun _ _=>rfl)) (pa_cons (pv 1) pa_nil))))
    (pss_one (ps_ret (pe_fn RB hr (pa_cons (pv 0) (pa_cons (pe_ix ix_tup (pv 0) pe_int (fun _ _=>rfl)) (pa_cons (pv 1) pa_nil))))))),?_⟩
  obtain ⟨k0,hk0,ek0⟩:=hO.k0
  refine ⟨_,rfl,tu,_,0,_,rfl,rfl,hT.tu,rfl,_,rfl,wd,rv,t,T.ks,k0,rfl,hT.w,hO.wo,hk0,htr,hlt,by rw [ek0];exact his,fun H1 g1=>?_⟩
  refine ⟨_,rfl,_,rfl,tu,_,1,_,rfl,rfl,g1.seqT hT.tu,rfl,_,rfl,tu,wd,lm,sv,mo,T,sv,T.start,rv,t,rfl,hT.same g1,hO,hTB,hm10,(hT.same g1).s,hls,hss,htr.mono fun _ _=>g1.seqT,hlt,St.start hO.ok his,htb.same g1,fun H2 g2 htb2=>q H2 ((SameX.of g1).trans g2) htb2⟩
theorem ok_tall {T0:Addr} (F:Fun K "tall" "tall" sTall f fd) (RN':Fn P w K mg base 44 "need_in" ["wood", "tree"] (spNeedIn K)) (RB:Fn P w K mg base 55 "tall_by" ["turning", "term", "tree"] (spBy K T0 eT qT opT)):FnOk P w K mg base CX0 56 f fd ["turning", "tree"] (spTell K T0 eT qT opT):=by
  refine F.ok scTall (fun vs H Q E h=>?_) (fun cdv A outer s H vs Q E hr h=>?_)
  · obtain ⟨tu,wd,lm,sv,mo,T,rv,t,rfl,_⟩:=h
    rfl
  obtain ⟨tu,wd,lm,sv,mo,T,rv,t,rfl,hT,hO,hTB,hm10,hls,hss,htr,hlt,his,htb,q⟩:=h
  refine ⟨_,(pss_cons (ps_expr (pe_fn RN' hr (pa_cons (pe_ix ix_tup (pv 0) pe_int (fun _ _=>rfl)) (pa_cons (pv 1) pa_nil))))
    (pss_one (ps_ret (pe_fn RB hr (pa_cons (pv 0) (pa_cons (pe_ix ix_tup (pv 0) pe_int (fun _ _=>rfl)) (pa_cons (pv 1) pa_nil))))))),?_⟩
  obtain ⟨k0,hk0,ek0⟩:=hO.k0
  refine ⟨_,rfl,tu,_,0,_,rfl,rfl,hT.tu,rfl,_,rfl,wd,rv,t,T.ks,k0,rfl,hT.w,hO.wo,hk0,htr,hlt,by rw [ek0];exact his,fun H1 g1=>?_⟩
  refine ⟨_,rfl,_,rfl,tu,_,1,_,rfl,rfl,g1.seqT hT.tu,rfl,_,rfl,tu,wd,lm,sv,mo,T,sv,T.start,rv,t,rfl,hT.same g1,hO,hTB,hm10,(hT.same g1).s,hls,hss,htr.mono fun _ _=>g1.seqT,hlt,St.start hO.ok his,htb.same g1,fun H2 g2 htb2=>q H2 ((SameX.of g1).trans g2) htb2⟩
end
end K26
namespace L2
open PySem PySem.Spec PyProof.Rows
theorem ObjOk.there {P:Program} {w:World} {H:Hp} {h:Heap} {a:Addr} {o:HO} (x:ObjOk P w H h a o):∃ ob,h.get? a=some ob:=by
  cases o with
  | lst xs=>obtain ⟨_,_,_,_,e⟩:=x;exact ⟨_,e⟩
  | tup xs=>obtain ⟨_,_,_,_,e,_⟩:=x;exact ⟨_,e⟩
  | dK kvs=>obtain ⟨_,_,_,_,o,_,_,e,_⟩:=x;exact ⟨_,e⟩
  | dT kvs=>obtain ⟨_,_,_,_,o,_,_,e,_⟩:=x;exact ⟨_,e⟩
  | set S n=>obtain ⟨o,_,_,_,e,_⟩:=x;exact ⟨_,e⟩
  | ins C dx fs=>obtain ⟨_,_,_,e,_⟩:=x;exact ⟨_,e⟩
  | own y=>obtain ⟨_,e⟩:=x;exact ⟨_,e⟩
  | xd fs=>obtain ⟨_,⟨_,_,_,e,_⟩,_⟩:=x;exact ⟨_,e⟩
  | rng lo hi=>obtain ⟨_,_,_,e⟩:=x;exact ⟨_,e⟩
  | frz ob u=>obtain ⟨e,_⟩:=x;exact ⟨_,e⟩
  | tbl ps=>exact ⟨_,(show h.get? a=some _ from x)⟩
  | met f y=>exact ⟨_,(show h.get? a=some _ from x)⟩
  | ext φ=>obtain ⟨_,e,_⟩:=x;exact e
def Cov (B:Heap) (fs:List Addr) (H':Hp) (h h1:Heap):Prop:=∀ b o,h1.get? b=some o→(H' b≠none∨∃ o',h.get? b=some o')→b ∉ fs→B.get? b=some o
structure Flw (P:Program) (w:World) (outer:List Env) (H:Hp) (s:Shared) (a:Addr) (cls:Value) (H':Hp) (s':Shared):Prop where
  os:s'.os=s.os
  bare:AllBare s'.gens
  un:Un (frs outer) [] H H' s.heap s'.heap
  hok:HOk P w H' s'.heap
  fly:∃ B t,Heap.FlyingW B outer a cls (.ref t) s'.heap∧Cov B (frs outer) H' s.heap s'.heap
def CX1 (P:Program) (w:World):CXT:=fun outer H s E e s'=>∃ (a:Addr) (cls:Value) (H':Hp),e=.ref a∧Flw P w outer H s a cls H' s'∧E cls none H'
theorem un_fly {fs:List Addr} {H H':Hp} {h h1 h2 B:Heap} (u:Un fs [] H H' h h1) (cov:Cov B fs H' h h1) (st:B.StaysIn h2) (up:h1.UpToSlots h2) (hfs:∀ b ∈ fs,∀ o,h1.get? b=some o→∀ vs,o.data≠.fields vs):Un fs [] H H' h h2 where
  keep:=fun b o e n hb hx=>st _ _ (cov b o (u.keep b o e n hb hx) (.inr ⟨o,e⟩) hb)
  slot:=fun b o e n hb hx=>by
    obtain ⟨sl,e1⟩:=u.slot b o e n hb hx
    obtain ⟨sl2,e2⟩:=up b _ e1 (hfs b hb _ e1)
    exact ⟨sl2,e2⟩
  free:=u.free
  there:=fun b o e hx=>by
    obtain ⟨o1,e1⟩:=u.there b o e hx
    by_cases hb:b ∈ fs
    · obtain ⟨sl2,e2⟩:=up b _ e1 (hfs b hb _ e1)
      exact ⟨_,e2⟩
    · exact ⟨o1,st _ _ (cov b o1 e1 (.inr ⟨o,e⟩) hb)⟩
  tups:=u.tups
  frzs:=u.frzs
  tbls:=u.tbls
theorem hok_fly {P:Program} {w:World} {fs:List Addr} {H':Hp} {h h1 h2 B:Heap} (hok:HOk P w H' h1) (trk:∀ b ∈ fs,H' b=none) (cov:Cov B fs H' h h1) (st:B.StaysIn h2):HOk P w H' h2:=fun b u e=>by
  refine (hok b u e).stay (fun c v hc r=>?_) (fun _ r=>r) fun _ _ r=>r
  have hne:H' c≠none:=by
    rcases hc with rfl | hc
    · rw [e];intro z;cases z
    · rw [hc];intro z;cases z
  exact st _ _ (cov c v r (.inl hne) fun z=>hne (trk c z))
section
variable {X:Cx} {pins:List (Addr × Obj)} {σ:St} {H H':Hp} {s s':Shared}
theorem frs_data {B:Heap} {l:List Env} {h:Heap} (hl:h.FunFrames B l):∀ b ∈ frs l,∀ o,h.get? b=some o→∀ vs,o.data≠.fields vs:=fun b hb o e vs=>by
  obtain ⟨_,o',e',d⟩:=hl.mem hb
  rw [e] at e'
  cases e'
  exact d vs
theorem free_un (I:Inv X pins σ H s) (u:Un (frs X.stack) [] H H' s.heap s'.heap):∀ b ∈ frs X.stack,H' b=none:=fun b hb=>by
  obtain ⟨_,o,ho,_⟩:=I.stack.mem hb
  exact u.free b o ho (I.stkFree b hb) (by simp)
theorem Inv.flown {h2 B:Heap} (I:Inv X pins σ H s) (os:s'.os=s.os) (bare:AllBare s'.gens) (un:Un (frs X.stack) [] H H' s.heap s'.heap) (hok:HOk X.prog X.w H' s'.heap) (hfr:s'.heap.FunFrames B X.stack) (cov:Cov B (frs X.stack) H' s.heap s'.heap) (st:B.StaysIn h2) (up:s'.heap.UpToSlots h2) :
    Inv X pins σ H' { s' with heap:=h2 } :=
  I.call' (s':={ s' with heap:=h2 }) (ch:=[]) os (un_fly un cov st up (frs_data hfr)) (hok_fly hok (free_un I un) cov st) bare (fun b z=>absurd z (by simp))
theorem Cov.out {B h2:Heap} {H0:Hp} {s0:Shared} (I:Inv X pins σ H s) (hH0:X.H₀=H0) (hs0:X.s₀=s0) (hex:X.ex=[]) (un:Un (frs X.stack) [] H H' s.heap s'.heap) (hok:HOk X.prog X.w H' s'.heap) (cov:Cov B (frs X.stack) H' s.heap s'.heap) (st:B.StaysIn h2):Cov B X.fs H' s0.heap h2:=fun b o e hb nb=>by
  have key:∃ o',s'.heap.get? b=some o'∧b ∉ frs X.stack∧(H' b≠none∨∃ o',s.heap.get? b=some o'):=by
    rcases hb with hb | ⟨o',hb⟩
    · cases hH:H' b with
      | none=>exact absurd hH hb
      | some u =>
        obtain ⟨o',ho'⟩:=(hok b u hH).there
        refine ⟨o',ho',fun z=>?_,.inl (by intro z;cases z)⟩
        rw [free_un I un b z] at hH
        cases hH
    · have h1:X.s₀.heap.get? b=some o':=by rw [hs0];exact hb
      obtain ⟨o1,e1⟩:=I.base.there b o' h1 (by rw [hex];simp)
      obtain ⟨o2,e2⟩:=un.there b o1 e1 (by simp)
      refine ⟨o2,e2,fun z=>?_,.inr ⟨o1,e1⟩⟩
      rcases List.mem_cons.mp (I.stkSub b z) with z | z
      · rw [z] at h1
        exact absurd (Nat.lt_of_lt_of_le (Heap.lt_size h1) I.ok.above) (Nat.lt_irrefl _)
      · exact nb z
  obtain ⟨o',h1,h2',h3⟩:=key
  have hB:=cov b o' h1 h3 h2'
  have:=st _ _ hB
  rw [e] at this
  cases this
  exact hB
end
section
variable {P:Program} {w:World} {K:PySem.W.Frag} {mg:Str→Option Value} {base:Heap} {N:List Str} {qual:Str} {scope:Scope} {f:Addr} {cd:Value} {A:Around} {outer:List Env} {s:Shared} {H:Hp} {E:XK}
theorem pass1 {E':XK} (k:∀ cls H',E' cls none H'→E cls none H'):Passes (CX1 P w) (cxOf (CX1 P w) P w K mg base N qual scope f cd A outer s H E) E':=by
  intro pins σ H1 s1 e s' I h
  obtain ⟨a,cls,H',rfl,F,q⟩:=h
  obtain ⟨B,t,hfl,cov⟩:=F.fly
  show wpAny (model P w) (A.deeper (envOfC qual scope s.heap.objs.size f cd)) (leaving (envOfC qual scope s.heap.objs.size f cd) (.ref a)) _ _ s'
  refine wpAny_leaves_onW I.ok.frames rfl hfl fun h2 hfl2 up=>?_
  have J:=I.flown F.os F.bare F.un F.hok hfl.2.2.1 cov hfl2.1 up
  exact ⟨a,cls,H',rfl,⟨J.os,J.bare,J.base,J.hok,B,t,hfl2,Cov.out I rfl rfl rfl F.un F.hok cov hfl2.1⟩,k _ _ q⟩
theorem raised {pins:List (Addr × Obj)} {σ:St} {H1:Hp} {s1:Shared} {a:Addr} {cls:Value} {args:List Value} {h':Heap} (I:Inv (cxOf (CX1 P w) P w K mg base N qual scope f cd A outer s H E) pins σ H1 s1) (hx:Heap.MadeExcOf s1.heap h' a cls args) (q:E cls none H1) :
    (cxOf (CX1 P w) P w K mg base N qual scope f cd A outer s H E).xe (.ref a) { s1 with heap:=h' }:=by
  show wpAny (model P w) (A.deeper (envOfC qual scope s.heap.objs.size f cd)) (leaving (envOfC qual scope s.heap.objs.size f cd) (.ref a)) _ _ _
  obtain ⟨stk,hstk⟩ : ∃ stk,stk=envOfC qual scope s.heap.objs.size f cd :: outer:=⟨_,rfl⟩
  have hfr:s1.heap.FunFrames (PySem.W.hideAll s1.heap (frs stk)) stk:=by
    have:=I.stack
    rw [hstk]
    exact PySem.W.funFrames_hide this fun env he b hb=>List.mem_filterMap.mpr ⟨env,he,hb⟩
  have cov:Cov (PySem.W.hideAll s1.heap (frs stk)) (frs stk) H1 s1.heap s1.heap:=fun b o e _ nb=>PySem.W.hideAll_get _ e nb
  refine wpAny_leaves_madeW (base:=PySem.W.hideAll s1.heap (frs stk)) (h:=s1.heap) I.ok.frames rfl (fun b o q=>PySem.W.of_hideAll _ q) (hstk ▸ hfr) hx fun h2 t hfl2 tup hbt up=>?_
  subst hstk
  have up':s1.heap.UpToSlots h2:=(Heap.UpToSlots.of_keeps hx.keeps).trans up
  have J:=I.flown (s':=s1) rfl I.bare Un.refl I.hok hfr cov hfl2.1 up'
  exact ⟨a,cls,H1,rfl,⟨J.os,J.bare,J.base,J.hok,_,t,hfl2,Cov.out (s':=s1) I rfl rfl rfl Un.refl I.hok cov hfl2.1⟩,q⟩
end
end L2
namespace L2
open PySem PySem.Spec PyProof.Rows
abbrev mroV:List Value:=[.type "ValueError", .type "Exception", .type "BaseException", .type "object"]
theorem exc_obj {K:PySem.W.Frag} {h:Heap} {C:Addr} {bmB:List Value} {newId:String} (X:K.In h) (q:PySem.W.excIn K C bmB newId=true) :
    ∃ tl N nm qn bs hdct sn sub ab col dd k0 k1 k2 k3 k5 mN,h.get? C=some (excClassObj nm qn C N bs tl hdct sn sub ab col dd k0 k1 k2 k3 k5 newId)∧h.Ns N mN∧mN "__init__" = none∧OwnTail h bmB tl:=by
  unfold PySem.W.excIn at q
  split at q
  · rename_i dd cd sl ho
    split at q
    · rename_i C' bm k0 k1 k2 k3 n k5 hm hs
      simp only [Bool.and_eq_true,beq_iff_eq,Bool.not_eq_true'] at q
      obtain ⟨⟨⟨⟨⟨e1,e2⟩,hdel⟩,ht⟩,hok⟩,hni⟩:=q
      subst e1 e2
      obtain ⟨nm,bs,mro,ns,qn,hd,sn,sub,ab,col,del⟩:=cd
      dsimp only at hm hdel hok hni
      subst hm hdel
      have hsl:sl=#[k0,k1,k2,k3,some (.builtin n),k5]:=by
        obtain ⟨l⟩:=sl
        exact congrArg Array.mk hs
      subst hsl
      exact ⟨bm,ns,nm,qn,bs,hd,sn,sub,ab,col,dd,k0,k1,k2,k3,k5,_,X _ _ ho,.of_isNs (PySem.W.isNs_of_in X hok),PySem.W.nsMap_none_of_in X hok hni,PySem.W.tail_of_in X ht⟩
    · cases q
  · cases q
def sRaise (C:Addr) (E:XK) (t:TA):TS:=fun D σ H=>t σ H fun vs H1=>vs.length≤sizeLine∧E (.ref C) none H1
section
variable {P:Program} {w:World} {K:PySem.W.Frag} {mg:Str→Option Value} {base:Heap} {N:List Str} {qual:Str} {scope:Scope} {f:Addr} {cd:Value} {A:Around} {outer:List Env} {s:Shared} {H:Hp} {E:XK}
theorem ps_raise {x:Str} {C:Addr} {newId Bn inN:String} {bmN:List Value} {e:Expr} {es:List Expr} {t:TA} {np cpos pos:Pos} (hm:mg x=some (.ref C)) (hq:PySem.W.excIn K C mroV newId=true) (Fn:ExcBaseFacts Bn newId inN bmN) (hBn:mroV.contains (.type Bn)=true)
    (ha:PA (cxOf (CX1 P w) P w K mg base N qual scope f cd A outer s H E) (e :: es) t) (hg:Gl (cxOf (CX1 P w) P w K mg base N qual scope f cd A outer s H E) x:=by rfl) (hd:(x == ("__debug__" : Str))=false:=by decide)
    (he:starEach (e :: es) (envOfC qual scope s.heap.objs.size f cd)=(false,eval e (envOfC qual scope s.heap.objs.size f cd)) :: starEach es (envOfC qual scope s.heap.objs.size f cd):=by rfl) (hpl:(backTo cpos (starEach es (envOfC qual scope s.heap.objs.size f cd))).any (·.1)=false:=by rfl) :
    PS (cxOf (CX1 P w) P w K mg base N qual scope f cd A outer s H E) (.Raise (some (.Call (.Name x np) (e :: es) [] cpos)) none pos) (sRaise C E t):=by
  intro pins s1 σ H1 D I h
  obtain ⟨tl,N',nm,qn,bs,hdct,sn,sub,ab,col,dd,k0,k1,k2,k3,k5,mN,hC,hN,hni,T⟩:=exc_obj (h:=base) I.ok.mod.kin hq
  refine wpAny_Raise_call_subU (C:=C) (nm:=nm) (q:=qn) (N:=N') (bs:=bs) (bm:=tl) (hdct:=hdct) (sn:=sn) (sub:=sub) (ab:=ab) (col:=col) (dd:=dd) (k0:=k0) (k1:=k1) (k2:=k2) (k3:=k3) (k5:=k5)
    Fn hBn PySem.F.excBase_ValueError (mN:=mN) (T.hasType PySem.F.excBase_ValueError.hasBase) (I.ok.hd rfl) ?_ hni (ld_glob I hg hm ⟨rfl,?_⟩ hd)
  · show (backTo cpos (starEach (e :: es) (envOfC qual scope s.heap.objs.size f cd))).any (·.1)=false
    rw [he]
    show (false || (backTo cpos (starEach es (envOfC qual scope s.heap.objs.size f cd))).any (·.1))=false
    rw [hpl];rfl
  · have hw:=ha cpos pins s1 σ H1 _ I h
    show wpAny (model P w) (A.deeper (envOfC qual scope s.heap.objs.size f cd)) (evalArgs (.ref C) true (backTo cpos (starEach (e :: es) (envOfC qual scope s.heap.objs.size f cd))) []) _ _ s1
    have hw':wpAny (model P w) (A.deeper (envOfC qual scope s.heap.objs.size f cd)) (spliced (backTo cpos (starEach (e :: es) (envOfC qual scope s.heap.objs.size f cd)))) _ _ s1:=hw
    rw [he] at hw' ⊢
    refine Calls.evalArgs_plain (wpAny_mono hw' (fun us s2 h2=>?_) fun _ _ y=>y)
    obtain ⟨vs,H2,I2,r,hl,q⟩:=h2
    exact ⟨rfl,by rw [← r.length];exact hl,I2.bk _ _ hC,hN.keeps I2.bk,T.keeps I2.bk,fun h' a hx=>raised I2 hx q⟩
end
end L2
namespace L2
open PySem PySem.Spec PyProof.Rows
structure FnX (P:Program) (w:World) (K:PySem.W.Frag) (mg:Str→Option Value) (base:Heap) (k:Nat) (x:Str) (ps:List Str) (sp:Sp):Prop where
  ex:∃ (f:Addr) (fd:FuncData),FnOk P w K mg base (CX1 P w) k f fd ps sp∧Binds K fd ps []∧PySem.W.keepIn K (.ref f)=true∧mg x=some (.ref f)
def PassE (X:Cx) (EE:St→XK):Prop:=∀ (pins:List (Addr × Obj)) (σ:St) (H:Hp) (s:Shared) (e:Value) (s':Shared),Inv X pins σ H s→CX1 X.prog X.w X.stack H s (EE σ) e s'→X.xe e s'
def tCallX (sp:Sp) (EE:St→XK) (t:TA):TE:=fun σ H Q=>t σ H fun vs H1=>sp vs H1 Q (EE σ)
section
variable {X:Cx}
theorem pe_fnX {k k':Nat} {x:Str} {ps:List Str} {sp:Sp} {EE:St→XK} {p pos:Pos} {e:Expr} {es:List Expr} {t:TA} (F:FnX X.prog X.w X.K X.mg X.base k x ps sp) (hr:Room k' X.A) (hx:PassE X EE) (ha:PA X (e :: es) t) (hk:k≤k':=by decide) (hg:Gl X x:=by rfl)
    (hdb:(x == ("__debug__" : Str))=false:=by decide) (he:starEach (e :: es) X.env=(false,eval e X.env) :: starEach es X.env:=by rfl) (hpl:(backTo pos (starEach es X.env)).any (·.1)=false:=by rfl) :
    PE X (.Call (.Name x p) (e :: es) [] pos) (tCallX sp EE t):=by
  obtain ⟨f,fd,h1,h2,h3,h4⟩:=F.ex
  intro pins s σ H Q I h
  refine wpAny_Call_Name_kw (ld_glob I hg h4 ?_ hdb)
  refine PySem.W.callWith_K (h₀:=X.base) I.ok.mod.kin h3 (thn (ha pos pins s σ H _ I h) fun us s1 ⟨vs,H1,I1,r,q⟩=>⟨I1.kIn,?_⟩) he hpl
  have hl:us.length=ps.length:=by rw [← r.length];exact h1.len _ _ _ _ q
  have hb:=h2 s1 us I1.kIn (by rw [List.append_nil];exact hl)
  rw [List.append_nil] at hb
  refine wpAny_call (codeAny_mono (h1.run X.A X.stack s1 H1 ⟨us,[]⟩ us vs Q (EE σ) (hr.mono hk) I1.env0 hb r q) fun r s' hq=>?_)
  cases r with
  | error e=>exact hx pins σ H1 s1 e s' I1 hq
  | ok fl =>
    cases fl with
    | ret u=>exact I1.after hq
    | next=>exact False.elim hq
    | brk=>exact False.elim hq
    | cont=>exact False.elim hq
end
section
variable {P:Program} {w:World} {K:PySem.W.Frag} {mg:Str→Option Value} {base:Heap} {N:List Str} {qual:Str} {scope:Scope} {f:Addr} {cd:Value} {A:Around} {outer:List Env} {s:Shared} {H:Hp} {E:XK}
theorem passE {E':XK} (k:∀ cls H',E' cls none H'→E cls none H'):PassE (cxOf (CX1 P w) P w K mg base N qual scope f cd A outer s H E) (fun _=>E'):=fun pins σ H1 s1 e s' I h=>pass1 k pins σ H1 s1 e s' I h
theorem Fun.okX {x:Str} {st:Stmt} {fd:FuncData} {ps:List Str} {k:Nat} {sp:Sp} (F:Fun K x qual st f fd) (S:FnScope N ps (defScope st)) (len:∀ vs H Q E,sp vs H Q E→vs.length=ps.length)
    (hbody:∀ (cdv:Value) (A:Around) (outer:List Env) (s:Shared) (H:Hp) (vs:List V) (Q:VK) (E:XK),Room k (A.deeper (envOfC qual (defScope st) s.heap.objs.size f cdv))→sp vs H Q E →
      ∃ t,PSs (cxOf (CX1 P w) P w K mg base N qual (defScope st) f cdv A outer s H E) (defBody st) t∧t { nx:=fun _ H'=>Q .non H',rt:=Q } (start N vs) H):FnOk P w K mg base (CX1 P w) (k + 1) f fd ps sp:=by
  obtain ⟨oc,od,kV,doc,pm,an,cdv,ct,osl,rfl,lk,hcd⟩:=F.ex
  exact fn_of lk hcd S len fun A outer s H vs Q E hr hsp=>hbody cdv A outer s H vs Q E hr hsp
theorem Fun.okXC {x:Str} {st:Stmt} {fd:FuncData} {ps:List Str} {k:Nat} {sp:Sp} {c T:Addr} (F:Fun K x qual st f fd) (hn:PySem.W.nsIn K mainGlobals x=some (some (.ref f))) (hT:PySem.W.tabIn K x=some (c,T)) (S:FnScope N ps (defScope st)) (len:∀ vs H Q E,sp vs H Q E→vs.length=ps.length)
    (hbody:∀ (A:Around) (outer:List Env) (s:Shared) (H:Hp) (vs:List V) (Q:VK) (E:XK),Room k (A.deeper (envOfC qual (defScope st) s.heap.objs.size f (.ref c)))→sp vs H Q E →
      ∃ t,PSs (cxOf (CX1 P w) P w K mg base N qual (defScope st) f (.ref c) A outer s H E) (defBody st) t∧t { nx:=fun _ H'=>Q .non H',rt:=Q } (start N vs) H):FnOk P w K mg base (CX1 P w) (k + 1) f fd ps sp:=by
  obtain ⟨oc,od,kV,doc,pm,an,cdv,ct,osl,rfl,lk,hcd⟩:=F.ex
  have e:cdv=.ref c:=code_of hn lk hT
  subst e
  exact fn_of lk hcd S len fun A outer s H vs Q E hr hsp=>hbody A outer s H vs Q E hr hsp
end
abbrev Cx.pnd (X:Cx) (pins:List (Addr × Obj)):Cx:={ X with pn:=X.pn ++ pins }
abbrev Cx.tryx (X:Cx) (pins:List (Addr × Obj)) (EE:St→XK):Cx:={ X with pn:=X.pn ++ pins,xe:=fun e s'=>∃ pins' σ H s,Inv (X.pnd pins) pins' σ H s∧CX1 X.prog X.w X.stack H s (EE σ) e s' }
abbrev Cx.mrk (X:Cx) (a:Addr):Cx:={ X with A:=X.A.mark (some (.ref a)),calm:=false,xe:=fun _ _=>False }
section
variable {X:Cx} {pins:List (Addr × Obj)} {σ:St} {H:Hp} {s:Shared} {EE:St→XK} {a:Addr}
theorem Inv.toTry (I:Inv X pins σ H s) (EE:St→XK):Inv (X.tryx pins EE) [] σ H s :=
  ⟨⟨I.ok.mod,I.ok.kind,I.ok.glob,I.ok.blt,I.ok.above,I.ok.inj,I.ok.has,I.ok.cab,I.ok.hd,I.ok.frames,I.ok.stk,I.ok.exf,I.ok.bs,I.ok.bsz,I.ok.noex,I.ok.exfs,I.ok.funs,I.ok.frf⟩,I.os,I.bare,I.base,I.loc,I.cell,I.free,I.freeC,fun p hp=>I.pin p (by simpa using hp),I.hok,I.len⟩
theorem Inv.ofTry {p2:List (Addr × Obj)} (I:Inv (X.tryx pins EE) p2 σ H s):Inv X pins σ H s :=
  ⟨⟨I.ok.mod,I.ok.kind,I.ok.glob,I.ok.blt,I.ok.above,I.ok.inj,I.ok.has,I.ok.cab,I.ok.hd,I.ok.frames,I.ok.stk,I.ok.exf,I.ok.bs,I.ok.bsz,I.ok.noex,I.ok.exfs,I.ok.funs,I.ok.frf⟩,I.os,I.bare,I.base,I.loc,I.cell,I.free,I.freeC,fun p hp=>I.pin p (List.mem_append_left _ hp),I.hok,I.len⟩
theorem Inv.ofTryP {p2:List (Addr × Obj)} (I:Inv (X.tryx pins EE) p2 σ H s):Inv (X.pnd pins) p2 σ H s :=
  ⟨⟨I.ok.mod,I.ok.kind,I.ok.glob,I.ok.blt,I.ok.above,I.ok.inj,I.ok.has,I.ok.cab,I.ok.hd,I.ok.frames,I.ok.stk,I.ok.exf,I.ok.bs,I.ok.bsz,I.ok.noex,I.ok.exfs,I.ok.funs,I.ok.frf⟩,I.os,I.bare,I.base,I.loc,I.cell,I.free,I.freeC,I.pin,I.hok,I.len⟩
theorem Inv.ofPnd {p2:List (Addr × Obj)} (I:Inv (X.pnd pins) p2 σ H s):Inv X pins σ H s :=
  ⟨⟨I.ok.mod,I.ok.kind,I.ok.glob,I.ok.blt,I.ok.above,I.ok.inj,I.ok.has,I.ok.cab,I.ok.hd,I.ok.frames,I.ok.stk,I.ok.exf,I.ok.bs,I.ok.bsz,I.ok.noex,I.ok.exfs,I.ok.funs,I.ok.frf⟩,I.os,I.bare,I.base,I.loc,I.cell,I.free,I.freeC,fun p hp=>I.pin p (List.mem_append_left _ hp),I.hok,I.len⟩
theorem Inv.toMrk (I:Inv X pins σ H s) (a:Addr) (hf:(X.A.mark (some (.ref a))).frames=X.A.frames):Inv (X.mrk a) pins σ H s :=
  ⟨⟨I.ok.mod,I.ok.kind,I.ok.glob,I.ok.blt,I.ok.above,I.ok.inj,I.ok.has,I.ok.cab,fun z=>(nomatch z),hf.trans I.ok.frames,I.ok.stk,I.ok.exf,I.ok.bs,I.ok.bsz,I.ok.noex,I.ok.exfs,I.ok.funs,I.ok.frf⟩,I.os,I.bare,I.base,I.loc,I.cell,I.free,I.freeC,I.pin,I.hok,I.len⟩
theorem Inv.ofMrk (ok:X.Ok) (I:Inv (X.mrk a) pins σ H s):Inv X pins σ H s:=⟨ok,I.os,I.bare,I.base,I.loc,I.cell,I.free,I.freeC,I.pin,I.hok,I.len⟩
theorem SP.ofTry {D:Ends} {fl:Flow} {s':Shared} (h:SP (X.tryx pins EE) [] D fl s'):SP X pins D fl s':=by
  cases fl with
  | next=>obtain ⟨σ',H',I,q⟩:=h;exact ⟨σ',H',I.ofTry,q⟩
  | brk=>obtain ⟨σ',H',I,q⟩:=h;exact ⟨σ',H',I.ofTry,q⟩
  | cont=>obtain ⟨σ',H',I,q⟩:=h;exact ⟨σ',H',I.ofTry,q⟩
  | ret u=>obtain ⟨v,σ',H',I,r,q⟩:=h;exact ⟨v,σ',H',I.ofTry,r,q⟩
theorem SP.ofMrk {D:Ends} {fl:Flow} {s':Shared} (ok:X.Ok) (h:SP (X.mrk a) pins D fl s'):SP X pins D fl s':=by
  cases fl with
  | next=>obtain ⟨σ',H',I,q⟩:=h;exact ⟨σ',H',I.ofMrk ok,q⟩
  | brk=>obtain ⟨σ',H',I,q⟩:=h;exact ⟨σ',H',I.ofMrk ok,q⟩
  | cont=>obtain ⟨σ',H',I,q⟩:=h;exact ⟨σ',H',I.ofMrk ok,q⟩
  | ret u=>obtain ⟨v,σ',H',I,r,q⟩:=h;exact ⟨v,σ',H',I.ofMrk ok,r,q⟩
theorem passT:PassE (X.tryx pins EE) EE:=fun p2 σ H s e s' I h=>⟨p2,σ,H,s,I.ofTryP,h⟩
end
end L2
namespace L2
open PySem PySem.Spec PyProof.Rows
def tFInt (te:TE):TE:=fun σ H Q=>te σ H fun v H1=>∃ i:Int,v=.int i∧i.natAbs.log2 < 1920∧Q (.str (toString i)) H1
def tFRep (te:TE):TE:=fun σ H Q=>te σ H fun v H1=>∃ x:Str,v=.str x∧(reprText x).length≤sizeLine∧Q (.str (reprText x)) H1
def tJoin3 (t1 t2 t3:TE):TE:=fun σ H Q=>t1 σ H fun v1 H1=>∃ a:Str,v1=.str a∧a.length≤1000∧t2 σ H1 fun v2 H2=>∃ b:Str,v2=.str b∧b.length≤1000∧t3 σ H2 fun v3 H3=>∃ c:Str,v3=.str c∧c.length≤1000∧Q (.str (Str.empty ++ a ++ b ++ c)) H3
def tJoin2 (t1 t2:TE):TE:=fun σ H Q=>t1 σ H fun v1 H1=>∃ a:Str,v1=.str a∧a.length≤1000∧t2 σ H1 fun v2 H2=>∃ b:Str,v2=.str b∧b.length≤1000∧Q (.str (Str.empty ++ a ++ b)) H2
section
variable {X:Cx} {e e1 e2 e3:Expr} {te t1 t2 t3:TE} {pos:Pos}
theorem pe_fint (he:PE X e te):PE X (.FormattedValue e (-1) none pos) (tFInt te):=by
  intro pins s σ H Q I h
  refine PySem.wpAny_FormattedValue_plain (thn (he pins s σ H _ I h) fun u s1 ⟨x,H1,I1,r,i,ex,hd,q⟩=>?_)
  subst ex
  obtain ⟨t,rfl⟩:=r
  exact wpAny_formatField_int hd ⟨.str (toString i),H1,I1.tok _,⟨_,rfl⟩,q⟩
theorem pe_frep (he:PE X e te):PE X (.FormattedValue e 114 none pos) (tFRep te):=by
  intro pins s σ H Q I h
  refine PySem.wpAny_FormattedValue_repr (thn (he pins s σ H _ I h) fun u s1 ⟨x,H1,I1,r,y,ex,hd,q⟩=>?_)
  subst ex
  obtain ⟨t,rfl⟩:=r
  refine wpAny_pyReprObj_gives (T:="str") (typeIs_str _ _ _) PySem.F.slot_str_repr PySem.F.entry_str_repr (PySem.F.args_str_repr_1 _) (gives_str_repr y t) ?_ rfl hd
  exact wpAny_formatField_str ⟨.str (reprText y),H1,I1.tok _,⟨_,rfl⟩,q⟩ ⟨.str (reprText y),H1,(I1.tok _).tok _,⟨_,rfl⟩,q⟩ hd
theorem pe_join3 (h1:PE X e1 t1) (h2:PE X e2 t2) (h3:PE X e3 t3):PE X (.JoinedStr [e1,e2,e3] pos) (tJoin3 t1 t2 t3):=by
  intro pins s σ H Q I h
  refine wpAny_JoinedStr ?_
  have e0:(Str.empty).length=0:=rfl
  refine thn (h1 pins s σ H _ I h) fun u1 s1 ⟨x1,H1,I1,r1,a,ea,la,q1⟩=>?_
  subst ea
  obtain ⟨ta,rfl⟩:=r1
  refine ⟨a,ta,rfl,line_of (by rw [strLen_append];omega),?_⟩
  refine thn (h2 pins s1 σ H1 _ I1 q1) fun u2 s2 ⟨x2,H2,I2,r2,b,eb,lb,q2⟩=>?_
  subst eb
  obtain ⟨tb,rfl⟩:=r2
  refine ⟨b,tb,rfl,line_of (by rw [strLen_append,strLen_append];omega),?_⟩
  refine thn (h3 pins s2 σ H2 _ I2 q2) fun u3 s3 ⟨x3,H3,I3,r3,c,ec,lc,q3⟩=>?_
  subst ec
  obtain ⟨tc,rfl⟩:=r3
  refine ⟨c,tc,rfl,line_of (by rw [strLen_append,strLen_append,strLen_append];omega),line_of (by rw [strLen_append,strLen_append,strLen_append];omega),?_⟩
  exact ⟨.str (Str.empty ++ a ++ b ++ c),H3,I3.tok _,⟨_,rfl⟩,q3⟩
theorem pe_join2 (h1:PE X e1 t1) (h2:PE X e2 t2):PE X (.JoinedStr [e1,e2] pos) (tJoin2 t1 t2):=by
  intro pins s σ H Q I h
  refine wpAny_JoinedStr ?_
  have e0:(Str.empty).length=0:=rfl
  refine thn (h1 pins s σ H _ I h) fun u1 s1 ⟨x1,H1,I1,r1,a,ea,la,q1⟩=>?_
  subst ea
  obtain ⟨ta,rfl⟩:=r1
  refine ⟨a,ta,rfl,line_of (by rw [strLen_append];omega),?_⟩
  refine thn (h2 pins s1 σ H1 _ I1 q1) fun u2 s2 ⟨x2,H2,I2,r2,b,eb,lb,q2⟩=>?_
  subst eb
  obtain ⟨tb,rfl⟩:=r2
  refine ⟨b,tb,rfl,line_of (by rw [strLen_append,strLen_append];omega),line_of (by rw [strLen_append,strLen_append];omega),?_⟩
  exact ⟨.str (Str.empty ++ a ++ b),H2,I2.tok _,⟨_,rfl⟩,q2⟩
end
end L2
namespace L2
open PySem PySem.Spec PyProof.Rows
def ExcO (a:Addr) (cls:Value):HO:=.ext fun h=>∃ ob,h.get? a=some ob∧ob.cls=cls
section
variable {X:Cx} {pins:List (Addr × Obj)} {σ:St} {H H':Hp} {s s':Shared} {a:Addr}
theorem Inv.track {o:HO} (I:Inv X pins σ H s) (hn:H a=none) (h0:∀ ob,X.s₀.heap.get? a≠some ob) (hL:a≠X.env.locals) (hc:∀ x c,X.env.cells.lookup x=some c→c≠a) (hp:∀ p ∈ X.pn ++ pins,p.1≠a) (ok:ObjOk X.prog X.w (upd H a o) s.heap a o):Inv X pins σ (upd H a o) s:=by
  have k:∀ b u,H b=some u→upd H a o b=some u:=fun b u e=>by rw [upd_ne (ne_of_none e hn)];exact e
  refine ⟨I.ok,I.os,I.bare,⟨I.base.keep,I.base.slot,fun b ob e n hx=>?_,I.base.there,fun b xs e=>k _ _ (I.base.tups b xs e),fun b ob u e=>k _ _ (I.base.frzs b ob u e),fun b ps e=>?_⟩,I.loc,I.cell,?_,fun x c e=>?_,fun p hp'=>?_,fun b u e=>?_,I.len⟩
  · rw [upd_ne (fun z=>by rw [z] at e;exact h0 ob e)];exact I.base.free b ob e n hx
  · obtain ⟨more,e1⟩:=I.base.tbls b ps e
    exact ⟨more,k _ _ e1⟩
  · rw [upd_ne (Ne.symm hL)];exact I.free
  · rw [upd_ne (hc x c e)];exact I.freeC x c e
  · obtain ⟨q1,q2,q3⟩:=I.pin p hp'
    exact ⟨q1,by rw [upd_ne (hp p hp')];exact q2,q3⟩
  · by_cases z:b=a
    · subst z
      rw [upd_same] at e
      cases e
      exact ok
    · rw [upd_ne z] at e
      exact (I.hok b u e).stay (fun _ _ _ r=>r) (fun c r=>k _ _ r) fun c xs r=>k _ _ r
theorem gone_ok {M:Model} {A:Around} {E:Value→Shared→Prop} {i:Nat} {n:Str} {pos:Pos} {Q:Unit→Shared→Prop} (I:Inv X pins σ H s) (hN:X.N.Nodup) (hi:X.N[i]?=some n) (hk:X.env.scope.names.lookup n=some .local)
    (h:∀ s',Inv X pins (σ.set i none) H s'→Q () s'):wpAny M A (do bindName X.env n .none;unbindBehindTheSuite X.env n pos) Q E s:=by
  obtain ⟨m,hn,hl⟩:=id I.loc
  have hcls:(X.env.scope.kind == .class || (X.env.scope.kind == .module && X.env.locals != X.env.globals))=false:=by rw [I.ok.kind];rfl
  have hiσ:i < σ.length:=by rw [I.len];exact (List.getElem?_eq_some_iff.mp hi).1
  have cne:=I.cne
  refine wpAny_nameGoes_keeps hk hn hcls fun h' v hn' hs=>?_
  obtain ⟨oL,_,_,hoL,_⟩:=id hn
  have tracked:HOk X.prog X.w H h':=fun b ob e=>by
    refine (I.hok b ob e).stay (fun c w' hc q=>(hs.2 c ?_).trans q) (fun _ q=>q) fun _ _ q=>q
    rintro rfl
    rcases hc with rfl | hc
    · rw [I.free] at e;cases e
    · rw [I.free] at hc;cases hc
  have neL:∀ b o,X.s₀.heap.get? b=some o→b≠X.env.locals:=fun b o e=>Nat.ne_of_lt (Nat.lt_of_lt_of_le (Heap.lt_size e) I.ok.above)
  refine h _ ⟨I.ok,I.os,I.bare,⟨fun b o e n hb hx=>(hs.2 b (neL b o e)).trans (I.base.keep b o e n hb hx),fun b o e n hb hx=>?_,I.base.free,fun b o e hx=>?_,I.base.tups,I.base.frzs,I.base.tbls⟩,⟨_,hn',fun j y v' e1 e2 e3=>?_⟩,fun y c e=>?_,I.free,I.freeC,fun p hp=>?_,tracked,by simpa using I.len⟩
  · obtain ⟨sl,e1⟩:=I.base.slot b o e n hb hx
    exact ⟨sl,(hs.2 b (neL b o e)).trans e1⟩
  · obtain ⟨o',e1⟩:=I.base.there b o e hx
    exact ⟨o',(hs.2 b (neL b o e)).trans e1⟩
  · by_cases hj:j=i
    · subst hj
      rw [List.getElem?_set_self hiσ] at e2
      cases e2
    · rw [List.getElem?_set_ne (Ne.symm hj)] at e2
      obtain ⟨u',r',q⟩:=hl j y v' e1 e2 e3
      refine ⟨u',r',?_⟩
      rcases q with ⟨k,e⟩ | ⟨k,c,e,z⟩
      · refine .inl ⟨k,?_⟩
        have:y≠n:=fun e=>hj (nodup_ix hN e1 (e ▸ hi))
        simp [this,e]
      · exact .inr ⟨k,c,e,z.sameBut hs (cne y c e)⟩
  · obtain ⟨w',z⟩:=I.cell y c e
    exact ⟨w',z.sameBut hs (cne y c e)⟩
  · obtain ⟨e,n,ne,nf,d⟩:=I.pin p hp
    exact ⟨(hs.2 p.1 ne).trans e,n,ne,nf,d⟩
end
def Ends.gone (D:Ends) (i:Nat):Ends:={ nx:=fun σ H=>D.nx (σ.set i none) H,ct:=fun σ H=>D.ct (σ.set i none) H,bk:=fun σ H=>D.bk (σ.set i none) H,rt:=D.rt }
def sTryAs (C:Addr) (i:Nat) (tb:(St→XK)→TS) (ts:TS):TS:=fun D σ H=>∃ EE:St→XK,tb EE D σ H∧∀ σ' cls H',EE σ' cls none H'→cls=.ref C∧∀ a,H' a=none→ts (D.gone i) (σ'.set i (some (.ref a))) (upd H' a (ExcO a (.ref C)))
section
variable {X:Cx}
theorem ps_tryAs {x n:Str} {i:Nat} {C:Addr} {body suite:List Stmt} {b₀:Stmt} {tb:(St→XK)→TS} {ts:TS} {np hpos pos:Pos} (hm:X.mg x=some (.ref C)) (hq:PySem.W.ktsIn X.K C "BaseException" = true) (hstk:X.stack=X.env :: X.outer) (hN:X.N.Nodup) (hi:X.N[i]?=some n) (hk:X.env.scope.names.lookup n=some .local)
    (hb:∀ pins EE,PSs (X.tryx pins EE) body (tb EE)) (hs:∀ a,PSs (X.mrk a) (b₀ :: suite) ts) (hg:Gl X x:=by rfl) (hfr:X.env.frame=some X.env.locals:=by rfl) (hd:(x == ("__debug__" : Str))=false:=by decide) (hex:X.ex=[]:=by rfl) :
    PS X (.Try body [.ExceptHandler (some (.Name x np)) (some n) (b₀ :: suite) hpos] [] [] pos) (sTryAs C i tb ts):=by
  intro pins s σ H D I h
  obtain ⟨EE,h1,h2⟩:=h
  refine wpAny_Try_except (wpAny_mono (hb pins EE [] s σ H D (I.toTry EE) h1) (fun fl s1 q=>?_) fun e s1 q=>?_)
  · have q':=SP.ofTry q
    cases fl with
    | next=>exact wpAny_execs_nil q'
    | brk=>exact q'
    | cont=>exact q'
    | ret u=>exact q'
  · obtain ⟨p2,σ1,H1,s0,I1,a,cls,H',rfl,F,q⟩:=q
    obtain ⟨rfl,hts⟩:=h2 _ _ _ q
    obtain ⟨B,t,hfl,cov⟩:=F.fly
    have hfr1:s1.heap.FunFrames B (X.pnd pins).stack:=hfl.2.2.1
    obtain ⟨oe,vs,hoe,hoc,hod,_⟩:=hfl.first
    have new:∀ b,(∃ o,s0.heap.get? b=some o)→b≠a:=fun b hb z=>by
      subst z
      by_cases hf:b ∈ frs X.stack
      · exact frs_data hfr1 b hf _ hoe _ hod
      · have:=cov b oe hoe (.inr hb) hf
        rw [hfl.2.1] at this;cases this
    have hHa:H' a=none:=by
      cases hz:H' a with
      | none=>rfl
      | some u =>
        by_cases hf:a ∈ frs X.stack
        · exact absurd hod (frs_data hfr1 a hf _ hoe _)
        · have:=cov a oe hoe (.inl (by rw [hz];intro z;cases z)) hf
          rw [hfl.2.1] at this;cases this
    rw [hstk] at hfl
    refine wpAny_looks_onW (by rw [← hstk];exact I.ok.frames) hfr hfl fun h4 hheld up4=>?_
    refine wpAny_landsW hheld fun h5 hfl5 up5'=>?_
    have up5:=up4.trans up5'
    have J5:=I1.flown F.os F.bare F.un F.hok hfr1 cov hfl5.1 up5
    have K5:Inv X pins σ1 H' { s1 with heap:=h5 }:=J5.ofPnd
    obtain ⟨nm,q',N',bs,bm,hdct,sn,sub,ab,col,dd,k0,k1,k2,k3,k5,newId,hC,hbase,hbT⟩:=PySem.W.kts_cls K5.kIn hq
    obtain ⟨ob,hob,hobc⟩:=hfl5.there
    have hmk:(X.A.mark (some (.ref a))).frames=X.A.frames:=rfl
    refine wpAny_handleBy_cons (codeAny_handlers_test (ld_glob (X:=X.mrk a) (K5.toMrk a hmk) hg hm ?_ hd)) (by intro q;cases q)
    refine wpAny_excMatches_sub_self hC hob hobc hbase (codeAny_handlers_suite_as ?_)
    refine lands_againW hfl5 fun h6 hfl6 up6=>?_
    have J6:=I1.flown F.os F.bare F.un F.hok hfr1 cov hfl6.1 (up5.trans up6)
    have K6:Inv X pins σ1 H' { s1 with heap:=h6 }:=J6.ofPnd
    obtain ⟨ob6,hob6,hobc6⟩:=hfl6.there
    have T6:Inv X pins σ1 (upd H' a (ExcO a (.ref C))) { s1 with heap:=h6 }:=by
      refine K6.track hHa (fun o e=>?_) (fun z=>?_) (fun y c e=>?_) (fun p hp=>?_) ⟨⟨ob6,hob6,hobc6⟩,⟨ob6,hob6⟩,fun g1 g2 ⟨o,e1,e2⟩ k=>⟨o,k _ e1,e2⟩⟩
      · obtain ⟨o1,e1⟩:=I1.base.there a o e (by show a ∉ X.ex;rw [hex];simp)
        exact new a ⟨o1,e1⟩ rfl
      · obtain ⟨m,⟨o,_,_,e,_⟩,_⟩:=I1.loc
        exact new _ ⟨o,e⟩ z.symm
      · obtain ⟨v,o,e1,_⟩:=I1.cell y c e
        exact new c ⟨o,e1⟩
      · exact new _ ⟨p.2,(I1.pin p (List.mem_append_left _ hp)).1⟩
    refine store_ok (X:=X.mrk a) (T6.toMrk a hmk) hN hi (.inl hk) (v:=.ref a) (u:=.ref a) rfl (fun s7 K7=>?_) (.inr hk)
    refine wpAny_mono (hs a pins _ _ _ (D.gone i) K7 (hts a hHa)) (fun fl s2 q=>?_) fun _ _ z=>z.elim
    have q':=SP.ofMrk K6.ok q
    cases fl with
    | next=>obtain ⟨σ',H2,I2,q2⟩:=q';exact gone_ok I2 hN hi hk fun s3 I3=>⟨_,H2,I3,q2⟩
    | brk=>obtain ⟨σ',H2,I2,q2⟩:=q';exact gone_ok I2 hN hi hk fun s3 I3=>⟨_,H2,I3,q2⟩
    | cont=>obtain ⟨σ',H2,I2,q2⟩:=q';exact gone_ok I2 hN hi hk fun s3 I3=>⟨_,H2,I3,q2⟩
    | ret u=>obtain ⟨v,σ',H2,I2,r2,q2⟩:=q';exact gone_ok I2 hN hi hk fun s3 I3=>⟨v,_,H2,I3,r2,q2⟩
end
end L2
namespace K26
open PySem L2 TM TT K9 K11
abbrev eR:Expr:=argOf (retOf sTurnedBy) 3
abbrev qR:Str:=(PyProof.Rows.envOfC "turned_by" (defScope sTurnedBy) 0 0 .none).qual ++ "<lambda>"
def opR (l:Lab) (mk:Int) (xs:List (Tree Str)):Tree Str:=match l with
  | .put n k a=>.node n (if k=true then a + mk else a) xs
  | .call _ _=>.node (S []) 0 []
def RT (K:PySem.W.Frag) (H:Hp) (v:V) (t:Tree Str):Prop:=TrV K H v t
theorem rep_T {K:PySem.W.Frag}:Rep K (RT K):=fun _ _ _ _ k h=>TrV.mono k h
theorem rt_all {K:PySem.W.Frag} {H:Hp}:∀ {ys:List V} {xs:List (Tree Str)},RAll (RT K) H ys xs→TrAll K H ys xs
  | _,_,.nil=>.nil
  | _,_,.cons h t=>.cons h (rt_all t)
structure Tb3 (T1 T2 T3:Addr) (H:Hp):Prop where
  m:TbS H T1 (lamPos eM) qM
  t:TbS H T2 (lamPos eT) qT
  r:TbS H T3 (lamPos eR) qR
structure Ne3 (T1 T2 T3:Addr):Prop where
  a:T1≠T2
  b:T1≠T3
  c:T2≠T3
def SX3 (T1 T2 T3:Addr) (H H':Hp):Prop:=∀ b u,b≠T1→b≠T2→b≠T3→H b=some u→H' b=some u
theorem SX3.of {T1 T2 T3:Addr} {H H':Hp} (g:Same H H'):SX3 T1 T2 T3 H H':=fun b u _ _ _ e=>g b u e
theorem SX3.trans {T1 T2 T3:Addr} {H H1 H2:Hp} (a:SX3 T1 T2 T3 H H1) (b:SX3 T1 T2 T3 H1 H2):SX3 T1 T2 T3 H H2:=fun c u n m l e=>b c u n m l (a c u n m l e)
theorem Tb3.same {T1 T2 T3:Addr} {H H':Hp} (g:Same H H') (h:Tb3 T1 T2 T3 H):Tb3 T1 T2 T3 H':=⟨h.m.same g,h.t.same g,h.r.same g⟩
theorem Tb3.mo {K:PySem.W.Frag} {T1 T2 T3:Addr} {H H':Hp} (h:Tb3 T1 T2 T3 H) (g:SX3 T1 T2 T3 H H'):Mo K H H':=by
  obtain ⟨p1,h1⟩:=h.m.at
  obtain ⟨p2,h2⟩:=h.t.at
  obtain ⟨p3,h3⟩:=h.r.at
  have go:∀ b u,H b=some u→(∀ ps,u≠.tbl ps)→H' b=some u:=fun b u e n=>g b u (ne_of e h1 (n p1)) (ne_of e h2 (n p2)) (ne_of e h3 (n p3)) e
  constructor
  · intro a xs h
    rcases h with (h | ⟨o,h⟩) | h
    · exact .inl (.inl (go _ _ h fun _ z=>nomatch z))
    · exact .inl (.inr ⟨o,go _ _ h fun _ z=>nomatch z⟩)
    · exact .inr h
  · intro a xs h
    rcases h with (h | ⟨o,h⟩) | h
    · exact .inl (.inl (go _ _ h fun _ z=>nomatch z))
    · exact .inl (.inr ⟨o,go _ _ h fun _ z=>nomatch z⟩)
    · exact .inr h
theorem Tb3.byM {T1 T2 T3:Addr} {H H':Hp} (ne:Ne3 T1 T2 T3) (h:Tb3 T1 T2 T3 H) (g:SameX T1 H H') (k:TbS H' T1 (lamPos eM) qM):Tb3 T1 T2 T3 H'∧SX3 T1 T2 T3 H H':=by
  obtain ⟨p1,h1⟩:=h.m.at
  exact ⟨⟨k,TbS.sameX h1 (Ne.symm ne.a) g h.t,TbS.sameX h1 (Ne.symm ne.b) g h.r⟩,fun b u n _ _ e=>g b u n e⟩
theorem Tb3.byT {T1 T2 T3:Addr} {H H':Hp} (ne:Ne3 T1 T2 T3) (h:Tb3 T1 T2 T3 H) (g:SameX T2 H H') (k:TbS H' T2 (lamPos eT) qT):Tb3 T1 T2 T3 H'∧SX3 T1 T2 T3 H H':=by
  obtain ⟨p2,h2⟩:=h.t.at
  exact ⟨⟨TbS.sameX h2 ne.a g h.m,k,TbS.sameX h2 (Ne.symm ne.c) g h.r⟩,fun b u _ n _ e=>g b u n e⟩
theorem Tb3.byR {T1 T2 T3:Addr} {H H':Hp} (ne:Ne3 T1 T2 T3) (h:Tb3 T1 T2 T3 H) (g:SameX T3 H H') (k:TbS H' T3 (lamPos eR) qR):Tb3 T1 T2 T3 H'∧SX3 T1 T2 T3 H H':=by
  obtain ⟨p3,h3⟩:=h.r.at
  exact ⟨⟨TbS.sameX h3 ne.b g h.m,TbS.sameX h3 ne.c g h.t,k⟩,fun b u _ _ n e=>g b u n e⟩
structure Ask (K:PySem.W.Frag) (H:Hp) (tu wd lm:Addr) (sv:V) (mo:List MdT) (T:Tu) (rv:V) (t:Tree Str):Prop where
  at':TurnAt K H tu wd lm sv mo T
  ok:TurnOk mo T
  bd:TBd T
  l10:mo.length≤10
  tr:TrV K H rv t
  lv:TM.lv t≤40
theorem Ask.mo {K:PySem.W.Frag} {H H':Hp} {tu wd lm:Addr} {sv:V} {mo:List MdT} {T:Tu} {rv:V} {t:Tree Str} (g:Mo K H H') (h:Ask K H tu wd lm sv mo T rv t):Ask K H' tu wd lm sv mo T rv t:=⟨g.turn h.at',h.ok,h.bd,h.l10,h.tr.mono g.t,h.lv⟩
def spTBy (K:PySem.W.Frag) (C T1 T2 T3:Addr):Sp:=fun vs H Q E=>∃ (tu wd lm:Addr) (sv:V) (mo:List MdT) (T:Tu) (v:V) (u:Tm) (rv:V) (t:Tree Str),vs=[.ref tu,v,rv]∧Ask K H tu wd lm sv mo T rv t∧TmV K H v u∧lv u≤8∧sz u≤100∧St T (u,upT t)∧Tb3 T1 T2 T3 H ∧
  (valT opM 0 T u (upT t)≤400∧valT opT 0 T u (upT t)≤60→∀ (v':V) (H':Hp),SX3 T1 T2 T3 H H'→Tb3 T1 T2 T3 H'→TrV K H' v' (valT opR (.node (S []) 0 []) T u (upT t))→Q v' H') ∧
  (¬ (valT opM 0 T u (upT t)≤400∧valT opT 0 T u (upT t)≤60)→∀ H':Hp,SX3 T1 T2 T3 H H'→Tb3 T1 T2 T3 H'→E (.ref C) none H')
section
variable {P:Program} {w:World} {K:PySem.W.Frag} {mg:Str→Option Value} {base:Heap} {f:Addr} {fd:FuncData}
theorem scLR:FnScope ["put", "mark", "parts"] ["put", "mark", "parts"] (lamScope eR):=⟨rfl,rfl,rfl,by decide +kernel,rfl,by decide +kernel,by decide +kernel⟩
theorem lam_made (G:Gm mg) (RP:Fn P w K mg base 1 "mark_put" ["term", "mark"] (spMP K)):CalV P w K mg base 2 eR (spMk K (RT K) opR):=by
  refine lam_run scLR (fun vs H Q E h=>?_) (fun qual pm c ctv us h=>?_) (fun qual f c A outer s H vs Q E hr h=>?_)
  · obtain ⟨v,u,mk,lp,ys,xs,rfl,_⟩:=h
    rfl
  · obtain ⟨a,b,d,rfl⟩:=len3 h
    rfl
  · obtain ⟨v,u,mk,lp,ys,xs,rfl,hu,hc,hl,hx,hxl,q⟩:=h
    refine ⟨_,(pe_tup (pa_cons (pe_ix ix_tup (pv 0) pe_int (fun _ _=>rfl)) (pa_cons (pe_fn RP hr (pa_cons (pv 0) (pa_cons (pv 1) pa_nil))) (pa_cons (pe_callTy call_tuple_of rfl G.tup PyProof.Rows.boot_tuple (pa_cons (pv 2) pa_nil)) pa_nil)))),?_⟩
    rcases tm_open hu with ⟨a,m,b,rfl,rfl,h1⟩ | ⟨a,b,bs,nm,k,ad,rfl,et,h1,h2,h3,h4⟩
    · cases hc
    have hxa:=rt_all hx
    refine ⟨_,rfl,a,_,1,_,rfl,rfl,h1,rfl,_,rfl,_,rfl,.ref a,nm,k,ad,mk,u.bs,rfl,et ▸ hu,?_⟩
    refine ⟨_,rfl,lp,_,rfl,.inl ⟨SqL.of hl,fun p hp=>?_⟩⟩
    have g1:=same_new hp (.tup ys)
    refine ⟨(by show 3≤sizeLine;decide),fun p2 hp2=>?_⟩
    have g2:=same_new hp2 (.tup [.str nm,.int (if k=true then ad + mk else ad),.ref p])
    refine q _ _ (g1.trans g2) ?_
    have hlab:lab u=.put nm k ad:=by rw [et];rfl
    rw [hlab]
    exact TrV.mk (SqT.of upd_same) (g2.seqT (SqT.of upd_same)) (hxa.mono fun _ _ h=>g2.seqT (g1.seqT h)) (by rw [hxa.length];omega)
theorem scTBy:FnScope ["turning", "term", "tree"] ["turning", "term", "tree"] (defScope sTurnedBy):=⟨rfl,rfl,rfl,by decide +kernel,rfl,by decide +kernel,by decide +kernel⟩
theorem ok_tby {c C T1 T2 T3:Addr} {newId Bn inN:String} {bmN:List Value} {tk1 tk2:Tok} (F:Fun K "turned_by" "turned_by" sTurnedBy f fd) (hn:PySem.W.nsIn K mainGlobals "turned_by" = some (some (.ref f))) (hT:PySem.W.tabIn K "turned_by" = some (c,T3)) (hC:PySem.W.codeHdIn K c T3=true) (hB:BtAt mg base)
    (h4:mg "MOST_NAMES" = some (.int 400 tk1)) (h6:mg "MOST_LEVELS" = some (.int 60 tk2)) (hm:mg "TooGreat" = some (.ref C)) (hq:PySem.W.excIn K C mroV newId=true) (Fn':ExcBaseFacts Bn newId inN bmN) (hBn:mroV.contains (.type Bn)=true) (ne:Ne3 T1 T2 T3)
    (RM:Fn P w K mg base 55 "many_by" ["turning", "term", "tree"] (spBy K T1 eM qM opM)) (RT':Fn P w K mg base 55 "tall_by" ["turning", "term", "tree"] (spBy K T2 eT qT opT)) (RO:Fn P w K mg base 54 "outcome" ["turning", "term", "tree", "make"] (spOut K eR (RT K) opR (.node (S []) 0 []))) :
    FnOk P w K mg base (CX1 P w) 56 f fd ["turning", "term", "tree"] (spTBy K C T1 T2 T3):=by
  refine Fun.okXC F hn hT scTBy (fun vs H Q E h=>?_) (fun A outer s H vs Q E hr h=>?_)
  · obtain ⟨tu,wd,lm,sv,mo,T,v,u,rv,t,rfl,_⟩:=h
    rfl
  obtain ⟨tu,wd,lm,sv,mo,T,v,u,rv,t,rfl,hA,hv,hlu,hsu,hst,htb,q1,q2⟩:=h
  refine ⟨_,(pss_cons (ps_if (pt_cmpR op_gt (pe_fn RM hr (pa_cons (pv 0) (pa_cons (pv 1) (pa_cons (pv 2) pa_nil)))) (pe_glob (v:=.int 400) rfl h4 ⟨_,rfl⟩) (nomark _)) (pss_one (ps_raise hm hq Fn' hBn (pa_cons (pe_join3 pe_str (pe_fint (pe_glob (v:=.int 400) rfl h4 ⟨_,rfl⟩)) pe_str) pa_nil))) pss_nil)
    (pss_cons (ps_if (pt_cmpR op_gt (pe_fn RT' hr (pa_cons (pv 0) (pa_cons (pv 1) (pa_cons (pv 2) pa_nil)))) (pe_glob (v:=.int 60) rfl h6 ⟨_,rfl⟩) (nomark _)) (pss_one (ps_raise hm hq Fn' hBn (pa_cons (pe_join3 pe_str (pe_fint (pe_glob (v:=.int 60) rfl h6 ⟨_,rfl⟩)) pe_str) pa_nil))) pss_nil)
    (pss_one (ps_ret (pe_fn RO hr (pa_cons (pv 0) (pa_cons (pv 1) (pa_cons (pv 2) (pa_cons (pe_lam (c:=c) (T:=T3) rfl hC hB) pa_nil))))))))),?_⟩
  refine ⟨_,rfl,_,rfl,_,rfl,tu,wd,lm,sv,mo,T,v,u,rv,t,rfl,hA.at',hA.ok,hA.bd,hA.l10,hv,hlu,hsu,hA.tr,hA.lv,hst,htb.m,fun H1 g1 k1=>?_⟩
  obtain ⟨tb1,x1⟩:=htb.byM ne g1 k1
  have m1:Mo K H H1:=htb.mo x1
  refine ⟨_,_,rfl,rfl,_,rfl,ite2 (fun c=>?_) (fun c=>?_)⟩
  · have c':((valT opM 0 T u (upT t):Nat):Int) > 400:=of_decide_eq_true c
    exact ⟨_,rfl,by decide +kernel,400,rfl,by decide +kernel,_,rfl,by decide +kernel,_,rfl,by decide +kernel,(by show 1≤sizeLine;decide),q2 (fun z=>by omega) H1 x1 tb1⟩
  have c':¬ ((valT opM 0 T u (upT t):Nat):Int) > 400:=fun z=>c (decide_eq_true z)
  have hA1:=hA.mo m1
  refine ⟨_,rfl,_,rfl,_,rfl,tu,wd,lm,sv,mo,T,v,u,rv,t,rfl,hA1.at',hA1.ok,hA1.bd,hA1.l10,hv.mono m1.t,hlu,hsu,hA1.tr,hA1.lv,hst,tb1.t,fun H2 g2 k2=>?_⟩
  obtain ⟨tb2,x2⟩:=tb1.byT ne g2 k2
  have m2:Mo K H1 H2:=tb1.mo x2
  have hA2:=hA1.mo m2
  refine ⟨_,_,rfl,rfl,_,rfl,ite2 (fun d=>?_) (fun d=>?_)⟩
  · have d':((valT opT 0 T u (upT t):Nat):Int) > 60:=of_decide_eq_true d
    exact ⟨_,rfl,by decide +kernel,60,rfl,by decide +kernel,_,rfl,by decide +kernel,_,rfl,by decide +kernel,(by show 1≤sizeLine;decide),q2 (fun z=>by omega) H2 (x1.trans x2) tb2⟩
  have d':¬ ((valT opT 0 T u (upT t):Nat):Int) > 60:=fun z=>d (decide_eq_true z)
  refine ⟨_,rfl,_,rfl,_,rfl,tb2.r,fun fm H3 g3 _ hL k3=>?_⟩
  obtain ⟨tb3,x3⟩:=tb2.byR ne g3 k3
  have m3:Mo K H2 H3:=tb2.mo x3
  have hA3:=hA2.mo m3
  exact ⟨tu,wd,lm,sv,mo,T,v,u,rv,t,fm,rfl,hA3.at',hA3.ok,hA3.bd,hA3.l10,((hv.mono m1.t).mono m2.t).mono m3.t,hlu,hsu,hA3.tr,hA3.lv,hst,hL,fun v' H4 g4 hv'=>q1 ⟨by omega,by omega⟩ v' H4 (x1.trans (x2.trans (x3.trans (SX3.of g4)))) (tb3.same g4) hv'⟩
end
end K26
namespace K26
open PySem L2 TM TT K9 K11
def spNOX (K:PySem.W.Frag) (C:Addr):Sp:=fun vs H Q E=>∃ (w:Addr) (kind:Str) (v:V) (t:Tree Str) (ks:List KdT),vs=[.ref w,.str kind,v]∧WoodAt K H w ks∧WoodOk ks∧TrV K H v t∧lv t≤40∧(reprText kind).length≤1000 ∧
  (isT (rowK ks) t kind=true→∀ H':Hp,Same H H'→Q .non H')∧(isT (rowK ks) t kind=false→∀ H':Hp,Same H H'→E (.ref C) none H')
def spNIX (K:PySem.W.Frag) (C:Addr):Sp:=fun vs H Q E=>∃ (w:Addr) (v:V) (t:Tree Str) (ks:List KdT) (k0:KdT),vs=[.ref w,v]∧WoodAt K H w ks∧WoodOk ks∧ks[0]?=some k0∧TrV K H v t∧lv t≤40∧(reprText k0.2.1).length≤1000 ∧
  (isT (rowK ks) t k0.2.1=true→∀ H':Hp,Same H H'→Q .non H')∧(isT (rowK ks) t k0.2.1=false→∀ H':Hp,Same H H'→E (.ref C) none H')
abbrev Fits (T:Tu) (u:Tm) (t:Tree Str):Prop:=valT opM 0 T u (upT t)≤400∧valT opT 0 T u (upT t)≤60
abbrev madeT (T:Tu) (u:Tm) (t:Tree Str):Tree Str:=valT opR (.node (S []) 0 []) T u (upT t)
def spTd (K:PySem.W.Frag) (CN CG T1 T2 T3:Addr):Sp:=fun vs H Q E=>∃ (tu wd lm:Addr) (sv:V) (mo:List MdT) (T:Tu) (rv:V) (t:Tree Str),vs=[.ref tu,rv]∧Ask K H tu wd lm sv mo T rv t∧lv T.start≤8∧sz T.start≤100∧(reprText T.k0).length≤1000∧Tb3 T1 T2 T3 H ∧
  (isT (rowK T.ks) t T.k0=false→∀ H':Hp,SX3 T1 T2 T3 H H'→Tb3 T1 T2 T3 H'→E (.ref CN) none H') ∧
  (isT (rowK T.ks) t T.k0=true→Fits T T.start t→∀ (v':V) (H':Hp),SX3 T1 T2 T3 H H'→Tb3 T1 T2 T3 H'→TrV K H' v' (madeT T T.start t)→Q v' H') ∧
  (isT (rowK T.ks) t T.k0=true→¬ Fits T T.start t→∀ H':Hp,SX3 T1 T2 T3 H H'→Tb3 T1 T2 T3 H'→E (.ref CG) none H')
def spTdIn (K:PySem.W.Frag) (CN CG T1 T2 T3:Addr):Sp:=fun vs H Q E=>∃ (tu wd lm:Addr) (sv:V) (mo:List MdT) (T:Tu) (rv:V) (t:Tree Str) (m:Nat) (md:MdT),vs=[.ref tu,.int (m:Int),rv]∧Ask K H tu wd lm sv mo T rv t∧mo[m]?=some md∧(reprText md.2.1).length≤1000∧Tb3 T1 T2 T3 H ∧
  (isT (rowK T.ks) t md.2.1=false→∀ H':Hp,SX3 T1 T2 T3 H H'→Tb3 T1 T2 T3 H'→E (.ref CN) none H') ∧
  (isT (rowK T.ks) t md.2.1=true→Fits T (leaf (m:Int) 0) t→∀ (v':V) (H':Hp),SX3 T1 T2 T3 H H'→Tb3 T1 T2 T3 H'→TrV K H' v' (madeT T (leaf (m:Int) 0) t)→Q v' H') ∧
  (isT (rowK T.ks) t md.2.1=true→¬ Fits T (leaf (m:Int) 0) t→∀ H':Hp,SX3 T1 T2 T3 H H'→Tb3 T1 T2 T3 H'→E (.ref CG) none H')
section
variable {P:Program} {w:World} {K:PySem.W.Frag} {mg:Str→Option Value} {base:Heap} {f:Addr} {fd:FuncData}
theorem ok_nox {C:Addr} {newId Bn inN:String} {bmN:List Value} (F:Fun K "need_of" "need_of" sNeedOf f fd) (hm:mg "NoTree" = some (.ref C)) (hq:PySem.W.excIn K C mroV newId=true) (Fn':ExcBaseFacts Bn newId inN bmN) (hBn:mroV.contains (.type Bn)=true) (RI:Fn P w K mg base 42 "is_of" ["wood", "kind", "tree"] (spIsOf K 40)):FnOk P w K mg base (CX1 P w) 43 f fd ["wood", "kind", "tree"] (spNOX K C):=by
  refine Fun.okX F scNeedOf (fun vs H Q E h=>?_) (fun cdv A outer s H vs Q E hr h=>?_)
  · obtain ⟨w,kind,v,t,ks,rfl,_⟩:=h
    rfl
  obtain ⟨wd,kind,v,t,ks,rfl,hW,hO,ht,hlv,hrp,q1,q2⟩:=h
  refine ⟨_,(pss_one (ps_if (pt_not (pt_val (pe_fn RI hr (pa_cons (pv 0) (pa_cons (pv 1) (pa_cons (pv 2) pa_nil)))))) (pss_one (ps_raise hm hq Fn' hBn (pa_cons (pe_join2 pe_str (pe_frep (pv 1))) pa_nil))) pss_nil)),?_⟩
  refine ⟨_,rfl,_,rfl,_,rfl,wd,kind,v,t,ks,rfl,hW,hO,ht,hlv,fun H1 g1=>⟨_,rfl,?_⟩⟩
  cases hb:isT (rowK ks) t kind with
  | true=>exact iteF (q1 hb H1 g1)
  | false=>exact iteT ⟨_,rfl,by decide +kernel,_,rfl,kind,rfl,line_of (by omega),_,rfl,hrp,(by show 1≤sizeLine;decide),q2 hb H1 g1⟩
theorem ok_nix {C:Addr} (F:Fun K "need_in" "need_in" sNeedIn f fd) (RN:FnX P w K mg base 43 "need_of" ["wood", "kind", "tree"] (spNOX K C)):FnOk P w K mg base (CX1 P w) 44 f fd ["wood", "tree"] (spNIX K C):=by
  refine Fun.okX F scNeedIn (fun vs H Q E h=>?_) (fun cdv A outer s H vs Q E hr h=>?_)
  · obtain ⟨w,v,t,ks,k0,rfl,_⟩:=h
    rfl
  obtain ⟨wd,v,t,ks,k0,rfl,hW,hO,hk0,ht,hlv,hrp,q1,q2⟩:=h
  refine ⟨_,(pss_one (ps_expr (pe_fnX (EE:=fun _=>E) RN hr (passE fun _ _ h=>h) (pa_cons (pv 0) (pa_cons (pe_ix ix_tup (pe_ix ix_list (pv 0) pe_int (fun _ _=>rfl)) pe_int (fun _ _=>rfl)) (pa_cons (pv 1) pa_nil)))))),?_⟩
  have hat:atI (ks.map fun k=>V.ref k.1) 0=some (.ref k0.1):=atI_nat (j:=0) (by rw [List.getElem?_map,hk0];rfl)
  exact ⟨_,rfl,_,rfl,wd,_,0,_,rfl,rfl,hW.1,hat,k0.1,_,0,_,rfl,rfl,(hW.2 k0 (List.mem_of_getElem? hk0)).1,rfl,_,rfl,wd,k0.2.1,v,t,ks,rfl,hW,hO,ht,hlv,hrp,q1,q2⟩
theorem scTd:FnScope ["turning", "tree"] ["turning", "tree"] (defScope sTurned):=⟨rfl,rfl,rfl,by decide +kernel,rfl,by decide +kernel,by decide +kernel⟩
theorem scTdIn:FnScope ["turning", "mode", "tree"] ["turning", "mode", "tree"] (defScope sTurnedIn):=⟨rfl,rfl,rfl,by decide +kernel,rfl,by decide +kernel,by decide +kernel⟩
theorem ok_td {CN CG T1 T2 T3:Addr} (F:Fun K "turned" "turned" sTurned f fd) (RN:FnX P w K mg base 44 "need_in" ["wood", "tree"] (spNIX K CN)) (RB:FnX P w K mg base 56 "turned_by" ["turning", "term", "tree"] (spTBy K CG T1 T2 T3)):FnOk P w K mg base (CX1 P w) 57 f fd ["turning", "tree"] (spTd K CN CG T1 T2 T3):=by
  refine Fun.okX F scTd (fun vs H Q E h=>?_) (fun cdv A outer s H vs Q E hr h=>?_)
  · obtain ⟨tu,wd,lm,sv,mo,T,rv,t,rfl,_⟩:=h
    rfl
  obtain ⟨tu,wd,lm,sv,mo,T,rv,t,rfl,hA,hls,hss,hrp,htb,q1,q2,q3⟩:=h
  refine ⟨_,(pss_cons (ps_expr (pe_fnX (EE:=fun _=>E) RN hr (passE fun _ _ h=>h) (pa_cons (pe_ix ix_tup (pv 0) pe_int (fun _ _=>rfl)) (pa_cons (pv 1) pa_nil))))
    (pss_one (ps_ret (pe_fnX (EE:=fun _=>E) RB hr (passE fun _ _ h=>h) (pa_cons (pv 0) (pa_cons (pe_ix ix_tup (pv 0) pe_int (fun _ _=>rfl)) (pa_cons (pv 1) pa_nil))))))),?_⟩
  obtain ⟨k0,hk0,ek0⟩:=hA.ok.k0
  refine ⟨_,rfl,tu,_,0,_,rfl,rfl,hA.at'.tu,rfl,_,rfl,wd,rv,t,T.ks,k0,rfl,hA.at'.w,hA.ok.wo,hk0,hA.tr,hA.lv,by rw [ek0];exact hrp,fun his H1 g1=>?_,fun his H1 g1=>q1 (by rw [← ek0];exact his) H1 (SX3.of g1) (htb.same g1)⟩
  rw [ek0] at his
  have hA1:=hA.mo (Mo.of g1)
  refine ⟨_,rfl,_,rfl,tu,_,1,_,rfl,rfl,g1.seqT hA.at'.tu,rfl,_,rfl,tu,wd,lm,sv,mo,T,sv,T.start,rv,t,rfl,hA1,hA1.at'.s,hls,hss,St.start hA.ok.ok his,htb.same g1,fun hf v' H2 g2 tb2 hv'=>q2 his hf v' H2 ((SX3.of g1).trans g2) tb2 hv',fun hf H2 g2 tb2=>q3 his hf H2 ((SX3.of g1).trans g2) tb2⟩
theorem ok_tdIn {CN CG T1 T2 T3:Addr} (F:Fun K "turned_in" "turned_in" sTurnedIn f fd) (RN:FnX P w K mg base 43 "need_of" ["wood", "kind", "tree"] (spNOX K CN)) (RB:FnX P w K mg base 56 "turned_by" ["turning", "term", "tree"] (spTBy K CG T1 T2 T3)):FnOk P w K mg base (CX1 P w) 57 f fd ["turning", "mode", "tree"] (spTdIn K CN CG T1 T2 T3):=by
  refine Fun.okX F scTdIn (fun vs H Q E h=>?_) (fun cdv A outer s H vs Q E hr h=>?_)
  · obtain ⟨tu,wd,lm,sv,mo,T,rv,t,m,md,rfl,_⟩:=h
    rfl
  obtain ⟨tu,wd,lm,sv,mo,T,rv,t,m,md,rfl,hA,hmd,hrp,htb,q1,q2,q3⟩:=h
  refine ⟨_,(pss_cons (ps_expr (pe_fnX (EE:=fun _=>E) RN hr (passE fun _ _ h=>h) (pa_cons (pe_ix ix_tup (pv 0) pe_int (fun _ _=>rfl)) (pa_cons (pe_ix ix_tup (pe_ix ix_list (pe_ix ix_tup (pv 0) pe_int (fun _ _=>rfl)) (pv 1) (fun _ _=>rfl)) pe_int (fun _ _=>rfl)) (pa_cons (pv 2) pa_nil)))))
    (pss_one (ps_ret (pe_fnX (EE:=fun _=>E) RB hr (passE fun _ _ h=>h) (pa_cons (pv 0) (pa_cons ((pe_tup (pa_cons (pe_str) (pa_cons (pv 1) (pa_cons (pe_int) pa_nil))))) (pa_cons (pv 2) pa_nil))))))),?_⟩
  have hmm:=List.mem_of_getElem? hmd
  have hat:atI (mo.map fun m=>V.ref m.1) (m:Int)=some (.ref md.1):=atI_nat (by rw [List.getElem?_map,hmd];rfl)
  have hTm:T.ms[m]?=some md.md:=by rw [← hA.ok.me,List.getElem?_map,hmd];rfl
  refine ⟨_,rfl,tu,_,0,_,rfl,rfl,hA.at'.tu,rfl,_,rfl,tu,_,2,_,rfl,rfl,hA.at'.tu,rfl,_,rfl,lm,_,_,_,rfl,rfl,hA.at'.m.1,hat,md.1,_,0,_,rfl,rfl,(hA.at'.m.2 md hmm).1,rfl,_,rfl,wd,md.2.1,rv,t,T.ks,rfl,hA.at'.w,hA.ok.wo,hA.tr,hA.lv,hrp,fun his H1 g1=>?_,fun his H1 g1=>q1 his H1 (SX3.of g1) (htb.same g1)⟩
  refine ⟨_,rfl,_,rfl,(by show 3≤sizeLine;decide),fun p hp=>⟨_,rfl,?_⟩⟩
  have k1:=same_new hp (.tup [.str CALL,.int (m:Int),.int 0])
  have g2:=g1.trans k1
  have hlf:TmV K (upd H1 p (.tup [.str CALL,.int (m:Int),.int 0])) (.ref p) (leaf (m:Int) 0):=.call (SqT.of upd_same)
  have hSt:St T (leaf (m:Int) 0,upT t):=St.mode (by omega) (by rw [Int.toNat_natCast];exact hTm) his
  exact ⟨tu,wd,lm,sv,mo,T,.ref p,leaf (m:Int) 0,rv,t,rfl,hA.mo (Mo.of g2),hlf,by simp [leaf,TM.lv,lvs],by simp [leaf,TM.sz,szs],hSt,htb.same g2,fun hf v' H3 g3 tb3 hv'=>q2 his hf v' H3 ((SX3.of g2).trans g3) tb3 hv',fun hf H3 g3 tb3=>q3 his hf H3 ((SX3.of g2).trans g3) tb3⟩
end
end K26
namespace K26
open PySem L2 TM TT K9 K11
abbrev putT (n:Str) (k:Bool) (a:Int) (bs:List Tm):Tm:=.node (.put n k a) 0 bs
structure Two (kd n1 n2:Str) (bare full:Tm) (rows:List PNx) (rules:List Tm):Prop where
  ex:∃ p1 q1 p2 q2,(rows=[(p1,n1,q1,[]),(p2,n2,q2,[kd])]∧rules=[bare,full])∨(rows=[(p2,n2,q2,[kd]),(p1,n1,q1,[])]∧rules=[full,bare])
section
variable {kd n1 n2:Str} {bare full:Tm} {rows:List PNx} {rules:List Tm} {ka lr:Addr}
theorem tw_rowsK:rowsK [(ka,kd,lr,rows)] kd=rows:=by simp [rowsK]
theorem Two.row1 (h:Two kd n1 n2 bare full rows rules) (ne:n1≠n2):rowK [(ka,kd,lr,rows)] kd n1=some []:=by
  unfold rowK
  rw [tw_rowsK]
  obtain ⟨p1,q1,p2,q2,⟨rfl,_⟩ | ⟨rfl,_⟩⟩:=h.ex
  · simp
  · simp [Ne.symm ne]
theorem Two.row2 (h:Two kd n1 n2 bare full rows rules) (ne:n1≠n2):rowK [(ka,kd,lr,rows)] kd n2=some [kd]:=by
  unfold rowK
  rw [tw_rowsK]
  obtain ⟨p1,q1,p2,q2,⟨rfl,_⟩ | ⟨rfl,_⟩⟩:=h.ex
  · simp [ne]
  · simp
theorem Two.rule1 (h:Two kd n1 n2 bare full rows rules) (ne:n1≠n2):ruleK [(ka,kd,lr,rows)] (kd,rules) n1=some bare:=by
  unfold ruleK
  rw [show rowsK [(ka,kd,lr,rows)] (kd,rules).1=rows from tw_rowsK]
  obtain ⟨p1,q1,p2,q2,⟨rfl,rfl⟩ | ⟨rfl,rfl⟩⟩:=h.ex
  · simp
  · simp [Ne.symm ne]
theorem Two.rule2 (h:Two kd n1 n2 bare full rows rules) (ne:n1≠n2):ruleK [(ka,kd,lr,rows)] (kd,rules) n2=some full:=by
  unfold ruleK
  rw [show rowsK [(ka,kd,lr,rows)] (kd,rules).1=rows from tw_rowsK]
  obtain ⟨p1,q1,p2,q2,⟨rfl,rfl⟩ | ⟨rfl,rfl⟩⟩:=h.ex
  · simp [ne]
  · simp
theorem Two.wood (h:Two kd n1 n2 bare full rows rules) (ne:n1≠n2) (o1:PyData.strOk n1=true) (o2:PyData.strOk n2=true) (ok:PyData.strOk kd=true):WoodOk [(ka,kd,lr,rows)]:=by
  refine ⟨by simp,(by show 1≤10;decide),fun k hk=>?_⟩
  have e:k=(ka,kd,lr,rows):=by simpa using hk
  subst e
  obtain ⟨p1,q1,p2,q2,⟨rfl,_⟩ | ⟨rfl,_⟩⟩:=h.ex
  · exact ⟨by simp [ne],(by show 2≤10;decide),by simp [o1,o2],by simp [ok],by simp⟩
  · exact ⟨by simp [Ne.symm ne],(by show 2≤10;decide),by simp [o1,o2],by simp [ok],by simp⟩
theorem Two.mem (h:Two kd n1 n2 bare full rows rules) {u:Tm} (hu:u ∈ rules):u=bare∨u=full:=by
  obtain ⟨p1,q1,p2,q2,⟨_,rfl⟩ | ⟨_,rfl⟩⟩:=h.ex <;> simp at hu <;> rcases hu with rfl | rfl <;> simp
theorem Two.fit (h:Two kd n1 n2 bare full rows rules) {mk:List Str} (f1:fitT mk [] bare=true) (f2:fitT mk [kd] full=true):rulesFit [(ka,kd,lr,rows)] mk (kd,rules)=true:=by
  unfold rulesFit
  rw [show rowsK [(ka,kd,lr,rows)] (kd,rules).1=rows from tw_rowsK]
  obtain ⟨p1,q1,p2,q2,⟨rfl,rfl⟩ | ⟨rfl,rfl⟩⟩:=h.ex
  · simp [f1,f2]
  · simp [f1,f2]
end
abbrev Tw (ka lr:Addr) (kd:Str) (rows:List PNx) (rules:List Tm):Tu:=⟨[(ka,kd,lr,rows)],kd,leaf 0 0,[(kd,rules)]⟩
def C0 (t:Tm):Prop:=∀ c ∈ cls t,c=(0,0)
structure Tn (kd n1 n2:Str) (bare full:Tm) (rows:List PNx) (rules:List Tm):Prop where
  two:Two kd n1 n2 bare full rows rules
  ne:n1≠n2
  b0:cls bare=[]
  f0:C0 full
  lb:lv bare≤8∧sz bare≤100
  lf:lv full≤8∧sz full≤100
  pb:isC (lab bare)=false
  pf:isC (lab full)=false
def ch (n1 n2:Str) (mk:Nat→Int):Nat→Tree Str
  | 0=>.node n1 (mk 0) []
  | k + 1=>.node n2 (mk (k + 1)) [ch n1 n2 mk k]
theorem lv_ch {n1 n2:Str} {mk:Nat→Int}:∀ k:Nat,lv (ch n1 n2 mk k)=k + 1
  | 0=>by simp [ch,TM.lv,TM.lvs]
  | k + 1=>by simp only [ch,TM.lv,TM.lvs,lv_ch k];omega
section
variable {kd n1 n2:Str} {bare full:Tm} {rows:List PNx} {rules:List Tm} {ka lr:Addr} {mk:Nat→Int}
theorem fit_C0 {t:Tm} (h:C0 t):fitT [kd] [kd] t=true:=by
  unfold fitT
  rw [List.all_eq_true]
  intro c hc
  rw [h c hc]
  simp [fit1]
theorem Tn.ok (t:Tn kd n1 n2 bare full rows rules):TuOk (Tw ka lr kd rows rules):=by
  refine ⟨fun m hm=>?_,?_⟩
  · have e:m=(kd,rules):=by simpa using hm
    subst e
    exact t.two.fit (mk:=[kd]) (by unfold fitT;rw [t.b0];rfl) (fit_C0 t.f0)
  · exact fit_C0 (kd:=kd) (t:=leaf 0 0) fun c hc=>by simpa [leaf,cls,clss,lcl] using hc
theorem Tn.bd (t:Tn kd n1 n2 bare full rows rules):TBd (Tw ka lr kd rows rules):=by
  intro md hmd u hu
  have e:md=(kd,rules):=by simpa using hmd
  subst e
  rcases t.two.mem hu with rfl | rfl
  · exact t.lb
  · exact t.lf
theorem val_call {α:Type} {op:Lab→Int→List α→α} {d:α} {T:Tu} {t:Tree Str} {m:Int}:valT op d T (leaf m 0) (upT t)=outT op d T.ks T.ms t m:=by
  simp [valT,leaf,fillT,upT,Tree.bs]
def och {α:Type} (op:Lab→Int→List α→α) (d:α) (bare full:Tm) (mk:Nat→Int):Nat→α
  | 0=>fillT (fun l xs=>op l (mk 0) xs) (fun _ _=>d) bare
  | k + 1=>fillT (fun l xs=>op l (mk (k + 1)) xs) (fun _ _=>och op d bare full mk k) full
theorem out_ch {α:Type} {op:Lab→Int→List α→α} {d:α} (t:Tn kd n1 n2 bare full rows rules):∀ k:Nat,outT op d (Tw ka lr kd rows rules).ks (Tw ka lr kd rows rules).ms (ch n1 n2 mk k) 0=och op d bare full mk k
  | 0=>by
    rw [ch,outT_rule (T:=Tw ka lr kd rows rules) (md:=(kd,rules)) rfl (t.two.rule1 t.ne),och]
    unfold valT
    refine fill_congr bare fun c hc=>?_
    rw [t.b0] at hc;cases hc
  | k + 1=>by
    rw [ch,outT_rule (T:=Tw ka lr kd rows rules) (md:=(kd,rules)) rfl (t.two.rule2 t.ne),och]
    unfold valT
    refine fill_congr full fun c hc=>?_
    rw [t.f0 c hc]
    exact out_ch t k
theorem is_ch (t:Tn kd n1 n2 bare full rows rules):∀ k:Nat,isT (rowK (Tw ka lr kd rows rules).ks) (ch n1 n2 mk k) kd=true
  | 0=>by rw [ch,isT,t.two.row1 t.ne];simp [isTs]
  | k + 1=>by rw [ch,isT,t.two.row2 t.ne];simp [isTs,is_ch t k]
theorem next_of {ks:List KdT} {ms:List Md} {t u:Tm} {r c':Tree Str} {m b:Int} {md:Md} (h1:lab t=.call m b) (h2:r.bs[b.toNat]?=some c') (h3:ms[m.toNat]?=some md) (h4:ruleK ks md (nmT c')=some u):nextR ks ms t r=some (u,c'):=by
  unfold nextR
  rw [h1]
  simp only [h2,h3,h4]
theorem come_ch (t:Tn kd n1 n2 bare full rows rules) {k:Nat} (hk:k≤50):come (Tw ka lr kd rows rules).ks (Tw ka lr kd rows rules).ms (leaf 0 0,upT (ch n1 n2 mk k))=(if k=0 then bare else full,ch n1 n2 mk k):=by
  have hl:lv (upT (ch n1 n2 mk k))≤60:=by rw [lv_up,lv_ch];omega
  cases k with
  | zero =>
    have hn:nextR (Tw ka lr kd rows rules).ks (Tw ka lr kd rows rules).ms (leaf 0 0) (upT (ch n1 n2 mk 0))=some (bare,ch n1 n2 mk 0):=next_of (m:=0) (b:=0) (md:=(kd,rules)) rfl rfl rfl (t.two.rule1 t.ne)
    rw [come_next (p:=(leaf 0 0,upT (ch n1 n2 mk 0))) hl hn,come_put t.pb];rfl
  | succ k =>
    have hn:nextR (Tw ka lr kd rows rules).ks (Tw ka lr kd rows rules).ms (leaf 0 0) (upT (ch n1 n2 mk (k + 1)))=some (full,ch n1 n2 mk (k + 1)):=next_of (m:=0) (b:=0) (md:=(kd,rules)) rfl rfl rfl (t.two.rule2 t.ne)
    rw [come_next (p:=(leaf 0 0,upT (ch n1 n2 mk (k + 1)))) hl hn,come_put t.pf];rfl
end
abbrev wideT (n:Str) (a:Int) (c:Nat) (inner:List Tm):Tm:=putT n false a (List.replicate c (putT n true 0 []) ++ inner)
def deepT (n:Str) (a:Int) (inner:List Tm):Nat→Tm
  | 0=>putT n true a inner
  | c + 1=>putT n (c % 2 == 0) a [deepT n a inner c]
section
variable {α:Type} {op:Lab→Int→List α→α} {mk:Int} {cv:Int→Int→α} {n:Str} {a:Int}
theorem sum_rep:∀ c:Nat,(List.replicate c 1).sum=c
  | 0=>rfl
  | c + 1=>by rw [List.replicate_succ,List.sum_cons,sum_rep c];omega
theorem fill_rep (op:Lab→List α→α) (cv:Int→Int→α) (u:Tm):∀ c:Nat,(List.replicate c u).map (fillT op cv)=List.replicate c (fillT op cv u)
  | c=>List.map_replicate
theorem many_wide {c:Nat} {cv:Int→Int→Nat} (b:Bool):fillT (fun l xs=>opM l mk xs) cv (wideT n a c (if b then [leaf 0 0] else []))=1 + c + (if b then cv 0 0 else 0):=by
  simp only [wideT,fillT,fillTs_map,List.map_append,fill_rep,opM,fillTs,List.sum_append]
  cases b <;> simp [leaf,fillT,sum_rep]
  all_goals omega
theorem fold_le:∀ (c m:Nat),(List.replicate c 1).foldl max m=max m (if c=0 then 0 else 1)
  | 0,m=>by simp
  | c + 1,m=>by
    rw [List.replicate_succ,List.foldl_cons,fold_le c]
    by_cases h:c=0 <;> simp [h] <;> omega
theorem tall_wide {c:Nat} {cv:Int→Int→Nat} (b:Bool) (h:b=true→1≤cv 0 0):fillT (fun l xs=>opT l mk xs) cv (wideT n a c (if b then [leaf 0 0] else []))=1 + (if b then cv 0 0 else if c=0 then 0 else 1):=by
  simp only [wideT,fillT,fillTs_map,List.map_append,fill_rep,opT,fillTs,List.foldl_append,List.foldl_nil]
  rw [show 1 + 0=1 from rfl,fold_le]
  cases b with
  | true =>
    have:=h rfl
    simp [leaf,fillT]
    split <;> omega
  | false=>simp
theorem many_deep {cv:Int→Int→Nat} (b:Bool):∀ c:Nat,fillT (fun l xs=>opM l mk xs) cv (deepT n a (if b then [leaf 0 0] else []) c)=1 + c + (if b then cv 0 0 else 0)
  | 0=>by cases b <;> simp [deepT,fillT,fillTs,opM,leaf]
  | c + 1=>by
    rw [deepT,fillT,fillTs,fillTs,many_deep b c]
    simp [opM];omega
theorem tall_deep {cv:Int→Int→Nat} (b:Bool):∀ c:Nat,fillT (fun l xs=>opT l mk xs) cv (deepT n a (if b then [leaf 0 0] else []) c)=1 + c + (if b then cv 0 0 else 0)
  | 0=>by cases b <;> simp [deepT,fillT,fillTs,opT,leaf]
  | c + 1=>by
    rw [deepT,fillT,fillTs,fillTs,tall_deep b c]
    simp [opT];omega
end
end K26
namespace L2
open PySem PySem.Spec PyProof.Rows
abbrev IsZipK (h:Heap) (z ti tu T:Addr) (b:Bool):Prop :=
  h.get? z=some { cls:=.type "zip", dict:=none,data:=.fields #[rawInt T,.bool b,.bool false,.ref ti,.ref tu],slots:=#[] }
section
variable {prog:Program} {w:World} {A:Around} {E:Value→Shared→Prop} {s:Shared}
theorem al_load {a:Addr} {o:Obj} {Q:Option Obj→Shared→Prop} (h:s.heap.get? a=some o) (q:Q (some o) s):wpAny (model prog w) A (loadIfAlive a) Q E s:=by
  intro Γ p _
  show Sem.wp _ _ (.loadIfAlive a .pure) _ _ _ _
  rw [Sem.wp_loadIfAlive,h]
  exact wpAny_pure (M:=model prog w) (A:=A) (E:=E) q Γ p ‹_›
theorem zipK_free {zp ti tu T:Addr} {b:Bool} {o:Obj} {Q:Bool→Shared→Prop} (gz:IsZipK s.heap zp ti tu T b) (hT:s.heap.get? T=some o)
    (k:∀ h',IsZipK h' zp ti tu T true→Heap.SameBut zp s.heap h'→Q false { s with heap:=h' }) :
    wpAny (model prog w) A (Builtin.SmallTypes.ownedTupleIsFree (.ref zp)) Q E s:=by
  unfold Builtin.SmallTypes.ownedTupleIsFree
  refine wpAny_bind (wpAny_field gz rfl (x:=rawInt T) rfl ?_)
  show wpAny _ _ (loadIfAlive ((T:Int)).toNat >>= _) _ _ _
  rw [Int.toNat_natCast]
  refine wpAny_bind (al_load hT ?_)
  simp only [Option.isNone_some,Bool.false_eq_true,if_false]
  refine wpAny_bind (wpAny_field gz rfl (x:=.bool b) rfl ?_)
  cases b with
  | true =>
    rw [if_neg (by decide)]
    exact wpAny_pure (k s.heap gz (Heap.SameBut.refl ..))
  | false =>
    rw [if_pos (by decide)]
    refine wpAny_bind (wpAny_setField_rec gz (by simp) fun h1 g1 s1=>wpAny_pure (k h1 g1 s1))
theorem zipK_item {zp ti tu j1 j2 t1 t2 T:Addr} {b:Bool} {n1 n2:Nat} {us vs:Array Value} {p q:Value} {o:Obj} {Q:Value→Shared→Prop} (Ap:ZipApart zp ti tu j1 j2 t1 t2) (nT:T≠zp)
    (gz:IsZipK s.heap zp ti tu T b) (hT:s.heap.get? T=some o) (gi:IsPair s.heap ti (.ref j1) (.ref j2))
    (w1:s.heap.IsTupleIter j1 t1 n1) (w2:s.heap.IsTupleIter j2 t2 n2) (l1:s.heap.IsTuple t1 us) (l2:s.heap.IsTuple t2 vs) (ep:us[n1]?=some p) (eq:vs[n2]?=some q)
    (k:∀ h',IsZipK h' zp ti tu T true→h'.IsTupleIter j1 t1 (n1 + 1)→h'.IsTupleIter j2 t2 (n2 + 1)→IsPair h' s.heap.objs.size p q →
      (∀ b o,b≠zp→b≠j1→b≠j2→s.heap.get? b=some o→h'.get? b=some o)→Q (.ref s.heap.objs.size) { s with heap:=h' }) :
    wpAny (model prog w) A (Builtin.«zip.__next__» ⟨[.ref zp],[]⟩) (fun fin s'=>∃ v,fin=.done (.ret v)∧Q v s') E s:=by
  show wpAny _ _ (field (.ref zp) 2 >>= _) _ _ _
  refine wpAny_bind (wpAny_field gz rfl (x:=.bool false) rfl ?_);show wpAny _ _ (field (.ref zp) 3 >>= _) _ _ _
  refine wpAny_bind (wpAny_field gz rfl (x:=.ref ti) rfl (wpAny_bind (wpAny_seqItems gi rfl ?_)))
  show wpAny _ _ (Builtin.SmallTypes.ownedTupleIsFree (.ref zp) >>= _) _ _ _;refine wpAny_bind (zipK_free gz hT fun ha ga sa=>?_)
  simp only [Bool.false_eq_true,if_false]
  refine wpAny_bind ?_
  rw [← Array.forIn_toList]
  simp only [List.forIn_cons,List.forIn_nil]
  refine wpAny_bind (wpAny_bind (wpAny_holding ?_));show wpAny _ _ (Builtin.SmallTypes.nextOf (.ref j1) >>= _) _ _ _
  refine wpAny_bind (tupNext_item (w1.extBut sa.extBut Ap.i1z) (l1.extBut sa.extBut Ap.l1z) ep fun hb wb sb=>wpAny_pure (wpAny_pure (wpAny_bind (wpAny_bind (wpAny_holding ?_)))))
  show wpAny _ _ (Builtin.SmallTypes.nextOf (.ref j2) >>= _) _ _ _
  refine wpAny_bind (tupNext_item ((w2.extBut sa.extBut Ap.i2z).extBut sb.extBut Ap.i12.symm) ((l2.extBut sa.extBut Ap.l2z).extBut sb.extBut Ap.l2i1) eq fun hc wc sc=>wpAny_pure (wpAny_pure (wpAny_pure (wpAny_bind (wpAny_newTuple ?_ (by show 2≤sizeLine;decide))))))
  have gc:IsZipK hc zp ti tu T true:=sc.extBut _ _ Ap.i2z.symm (sb.extBut _ _ Ap.i1z.symm ga)
  have size3:hc.objs.size=s.heap.objs.size:=by rw [sc.1,sb.1,sa.1]
  have kept3:∀ b o,b≠zp→b≠j1→b≠j2→s.heap.get? b=some o→hc.get? b=some o:=fun b o b1 b2 b3 e=>sc.extBut _ _ b3 (sb.extBut _ _ b2 (sa.extBut _ _ b1 e))
  have gnew:IsPair (hc.push { cls:=.type "tuple", data:=.seq #[p,q] }) hc.objs.size p q:=Heap.get?_push_size _ rfl
  refine wpAny_pure ⟨_,rfl,?_⟩
  show Q (.ref hc.objs.size) _
  rw [size3] at gnew ⊢
  exact k _ (Heap.get?_push_of_some _ gc) ((wb.extBut sc.extBut Ap.i12).at fun o e=>Heap.get?_push_of_some _ e) (wc.at fun o e=>Heap.get?_push_of_some _ e) gnew fun b o b1 b2 b3 e=>Heap.get?_push_of_some _ (kept3 b o b1 b2 b3 e)
theorem zipK_end {zp ti tu j1 j2 t1 t2 T:Addr} {b:Bool} {n1:Nat} {us:Array Value} {o:Obj} {Q:Fin→Shared→Prop} (hh:A.handled=none) (Ap:ZipApart zp ti tu j1 j2 t1 t2)
    (gz:IsZipK s.heap zp ti tu T b) (hT:s.heap.get? T=some o) (gi:IsPair s.heap ti (.ref j1) (.ref j2)) (w1:s.heap.IsTupleIter j1 t1 n1) (l1:s.heap.IsTuple t1 us) (ep:us[n1]?=none)
    (k:∀ h' e,(∀ b o,b≠zp→b≠j1→b≠j2→s.heap.get? b=some o→h'.get? b=some o)→(∃ o,h'.get? e=some o∧o.cls=.type "StopIteration")→E (.ref e) { s with heap:=h' }) :
    wpAny (model prog w) A (Builtin.«zip.__next__» ⟨[.ref zp],[]⟩) Q E s:=by
  show wpAny _ _ (field (.ref zp) 2 >>= _) _ _ _
  refine wpAny_bind (wpAny_field gz rfl (x:=.bool false) rfl ?_);show wpAny _ _ (field (.ref zp) 3 >>= _) _ _ _
  refine wpAny_bind (wpAny_field gz rfl (x:=.ref ti) rfl (wpAny_bind (wpAny_seqItems gi rfl ?_)))
  show wpAny _ _ (Builtin.SmallTypes.ownedTupleIsFree (.ref zp) >>= _) _ _ _;refine wpAny_bind (zipK_free gz hT fun ha ga sa=>?_)
  simp only [Bool.false_eq_true,if_false]
  refine wpAny_bind ?_
  rw [← Array.forIn_toList]
  simp only [List.forIn_cons,List.forIn_nil]
  refine wpAny_bind (wpAny_bind (wpAny_holding ?_));show wpAny _ _ (Builtin.SmallTypes.nextOf (.ref j1) >>= _) _ _ _
  refine wpAny_bind (tupNext_end hh (w1.extBut sa.extBut Ap.i1z) (l1.extBut sa.extBut Ap.l1z) ep fun hb e sb ge=>?_)
  exact k hb e (fun b o b1 b2 _ x=>sb _ _ b2 (sa.extBut _ _ b1 x)) ge
theorem nextK_item {zp ti tu j1 j2 t1 t2 T:Addr} {b:Bool} {n1 n2:Nat} {us vs:Array Value} {p q:Value} {o:Obj} {Q:Option Value→Shared→Prop} (Ap:ZipApart zp ti tu j1 j2 t1 t2) (nT:T≠zp)
    (gz:IsZipK s.heap zp ti tu T b) (hT:s.heap.get? T=some o) (gi:IsPair s.heap ti (.ref j1) (.ref j2))
    (w1:s.heap.IsTupleIter j1 t1 n1) (w2:s.heap.IsTupleIter j2 t2 n2) (l1:s.heap.IsTuple t1 us) (l2:s.heap.IsTuple t2 vs) (ep:us[n1]?=some p) (eq:vs[n2]?=some q)
    (k:∀ h',IsZipK h' zp ti tu T true→h'.IsTupleIter j1 t1 (n1 + 1)→h'.IsTupleIter j2 t2 (n2 + 1)→IsPair h' s.heap.objs.size p q →
      (∀ b o,b≠zp→b≠j1→b≠j2→s.heap.get? b=some o→h'.get? b=some o)→Q (some (.ref s.heap.objs.size)) { s with heap:=h' }) :
    wpAny (model prog w) A (pyNext (.ref zp)) Q E s:=by
  have tz:s.TypeIs (.ref zp) "zip" := ⟨_,gz,rfl⟩
  unfold pyNext
  exact wpAny_bind (wpAny_attempt (wpAny_callSpecial?_slot (name:=Str.ofString "__next__") tz F.slot_zip_next (wpAny_call_entry F.slot_zip_next tz F.entry_zip_next (zipK_item Ap nT gz hT gi w1 w2 l1 l2 ep eq fun h' a1 a3 a4 a5 a6=>wpAny_pure (k h' a1 a3 a4 a5 a6)) (F.args_zip_next_1 _))))
theorem nextK_end {zp ti tu j1 j2 t1 t2 T:Addr} {b:Bool} {n1:Nat} {us:Array Value} {o:Obj} {Q:Option Value→Shared→Prop} (hh:A.handled=none) (Ap:ZipApart zp ti tu j1 j2 t1 t2)
    (gz:IsZipK s.heap zp ti tu T b) (hT:s.heap.get? T=some o) (gi:IsPair s.heap ti (.ref j1) (.ref j2)) (w1:s.heap.IsTupleIter j1 t1 n1) (l1:s.heap.IsTuple t1 us) (ep:us[n1]?=none)
    (k:∀ h',(∀ b o,b≠zp→b≠j1→b≠j2→s.heap.get? b=some o→h'.get? b=some o)→Q none { s with heap:=h' }):wpAny (model prog w) A (pyNext (.ref zp)) Q E s:=by
  have tz:s.TypeIs (.ref zp) "zip" := ⟨_,gz,rfl⟩
  unfold pyNext
  refine wpAny_bind (wpAny_attempt (wpAny_callSpecial?_slot (name:=Str.ofString "__next__") tz F.slot_zip_next (wpAny_call_entry F.slot_zip_next tz F.entry_zip_next (zipK_end hh Ap gz hT gi w1 l1 ep fun h' e hk ge=>?_) (F.args_zip_next_1 _))))
  obtain ⟨o,ho,hc⟩:=ge
  exact wpAny_bind (wpAny_isInstance (T:="StopIteration") (b:=true) ⟨o,ho,hc⟩ isSubtype_stop (wpAny_pure (k _ hk)))
theorem zip_no_len:typeLookup (.type "zip") "__len__" = pure Option.none:=by rw [typeLookup_type,builtinLookup_eq_fast];kernel_rfl
theorem zip_no_hint:typeLookup (.type "zip") "__length_hint__" = pure Option.none:=by rw [typeLookup_type,builtinLookup_eq_fast];kernel_rfl
theorem hint_zip {z:Addr} {Q:Bool→Shared→Prop} (tz:s.TypeIs (.ref z) "zip") (h:Q true s):wpAny (model prog w) A (Builtin.List.listLengthHint (.ref z)) Q E s:=by
  unfold Builtin.List.listLengthHint
  refine wpAny_bind (wpAny_specialOf tz zip_no_len ?_)
  show wpAny _ A (specialOf (Value.ref z) (Str.ofString "__length_hint__") >>= _) _ _ _
  refine wpAny_bind (wpAny_specialOf tz zip_no_hint ?_)
  exact wpAny_pure h
end
end L2
namespace L2
open PySem PySem.Spec PyProof.Rows
structure ZS (h:Heap) (z ti tu j1 j2 a b:Addr) (i:Nat):Prop where
  pr:IsPair h ti (.ref j1) (.ref j2)
  w1:h.IsTupleIter j1 a i
  w2:h.IsTupleIter j2 b i
  zz:(IsZip h z ti tu .none∧∃ u v,IsPair h tu u v)∨∃ T bb o,IsZipK h z ti tu T bb∧h.get? T=some o∧T≠z∧T≠j1∧T≠j2
def Prs (H:Hp) (xs ys:List V) (ts:List Addr):Prop:=∀ (j:Nat) (t:Addr),ts[j]?=some t→∃ u v,xs[j]?=some u∧ys[j]?=some v∧H t=some (.tup [u,v])
theorem Prs.same {H H':Hp} {xs ys:List V} {ts:List Addr} (g:Same H H') (h:Prs H xs ys ts):Prs H' xs ys ts:=fun j t e=>by
  obtain ⟨u,v,a,b,c⟩:=h j t e
  exact ⟨u,v,a,b,g _ _ c⟩
theorem push_arr (ts:List Addr) (t:Addr):(ts.map Value.ref).toArray.push (.ref t)=((ts ++ [t]).map Value.ref).toArray:=by simp
section
variable {X:Cx} {pins:List (Addr × Obj)} {σ:St}
theorem zip_next {A:Around} {E:Value→Shared→Prop} {s:Shared} {H:Hp} {z ti tu j1 j2 a b:Addr} {xs ys:List V} {i:Nat} {fp:List Addr} (Ap:ZipApart z ti tu j1 j2 a b) (hfp:∀ c ∈ [z,ti,tu,j1,j2],c ∈ fp) (I:Inv X pins σ H s) (hf:∀ c ∈ fp,FpOk X pins H c) (hs:∀ c ∈ fp,c < s.heap.objs.size) (st:ZS s.heap z ti tu j1 j2 a b i)
    (qa:SqT X.K H a xs) (qb:SqT X.K H b ys) (lx:i < xs.length) (ly:i < ys.length) {Q:Option Value→Shared→Prop}
    (k:∀ (t:Addr) (h':Heap),H t=none→Inv X pins σ (upd H t (.tup [xs[i],ys[i]])) { s with heap:=h' }→(∀ c ∈ fp,FpOk X pins (upd H t (.tup [xs[i],ys[i]])) c)→(∀ c ∈ fp,c < h'.objs.size)→ZS h' z ti tu j1 j2 a b (i + 1)→(∀ c o,c ∉ [z,tu,j1,j2]→s.heap.get? c=some o→h'.get? c=some o)→Q (some (.ref t)) { s with heap:=h' }) :
    wpAny (model X.prog X.w) A (pyNext (.ref z)) Q E s:=by
  obtain ⟨its,rv,p,_⟩:=I.tuple qa
  obtain ⟨its2,rv2,p2,_⟩:=I.tuple qb
  have ex:xs[i]?=some xs[i]:=List.getElem?_eq_getElem lx
  have ey:ys[i]?=some ys[i]:=List.getElem?_eq_getElem ly
  obtain ⟨u,hu,ru⟩:=rv.get ex
  obtain ⟨v,hv,rv'⟩:=rv2.get ey
  have lt:∀ {c o},s.heap.get? c=some o→c≠s.heap.objs.size:=fun e=>Nat.ne_of_lt (Heap.lt_size e)
  have hch:∀ c ∈ [z,tu,j1,j2],FpOk X pins H c:=fun c hc=>hf c (hfp c (by
    simp only [List.mem_cons,List.mem_nil_iff,or_false] at hc ⊢
    rcases hc with rfl | rfl | rfl | rfl <;> simp))
  have fin:∀ h',IsPair h' s.heap.objs.size u v→(∀ c o,c ∉ [z,tu,j1,j2]→s.heap.get? c=some o→h'.get? c=some o)→ZS h' z ti tu j1 j2 a b (i + 1)→Q (some (.ref s.heap.objs.size)) { s with heap:=h' }:=fun h' e5 hk hz'=>by
    have I2:Inv X pins σ (upd H s.heap.objs.size (.tup [xs[i],ys[i]])) { s with heap:=h',toks:=s.toks } :=
      I.turnedNew (ch:=[z,tu,j1,j2]) hk hch (Nat.le_refl _) ⟨by show 2≤sizeLine;decide,[u,v],.cons ru (.cons rv' .nil),⟨_,e5,rfl,_,rfl⟩⟩
    have hlt:=Heap.lt_size e5
    refine k _ h' I.fresh I2 (fun c hc=>?_) (fun c hc=>Nat.lt_trans (hs c hc) hlt) hz' hk
    obtain ⟨f0,f1,f2,f3,f4,f5⟩:=hf c hc
    exact ⟨by rw [upd_ne (Nat.ne_of_lt (hs c hc))];exact f0,f1,f2,f3,f4,f5⟩
  rcases st.zz with ⟨hz,u0,v0,hTO⟩ | ⟨T,bb,o,hz,hT,n1,n2,n3⟩
  · refine pyNext_zipT_item Ap hz st.pr hTO st.w1 st.w2 p p2 (p:=u) (q:=v) (by simpa using hu) (by simpa using hv) fun h' a1 a2 a3 a4 a5 hk=>fin h' a5 (fun c o hc e=>?_) ?_
    · simp only [List.mem_cons,List.mem_nil_iff,or_false,not_or] at hc
      exact hk c o hc.1 hc.2.1 hc.2.2.1 hc.2.2.2 e
    · refine ⟨hk _ _ Ap.TIz Ap.TITO Ap.TIi1 Ap.TIi2 st.pr,a3,a4,.inr ⟨s.heap.objs.size,false,_,a1,a5,Ne.symm (lt hz),?_,?_⟩⟩
      · obtain ⟨o,e,_⟩:=st.w1;exact Ne.symm (lt e)
      · obtain ⟨o,e,_⟩:=st.w2;exact Ne.symm (lt e)
  · refine nextK_item Ap n1 hz hT st.pr st.w1 st.w2 p p2 (p:=u) (q:=v) (by simpa using hu) (by simpa using hv) fun h' a1 a3 a4 a5 hk=>fin h' a5 (fun c o hc e=>?_) ?_
    · simp only [List.mem_cons,List.mem_nil_iff,or_false,not_or] at hc
      exact hk c o hc.1 hc.2.2.1 hc.2.2.2 e
    · exact ⟨hk _ _ Ap.TIz Ap.TIi1 Ap.TIi2 st.pr,a3,a4,.inr ⟨T,true,o,a1,hk _ _ n1 n2 n3 hT,n1,n2,n3⟩⟩
theorem zip_done {A:Around} {E:Value→Shared→Prop} {s:Shared} {H:Hp} {z ti tu j1 j2 a b:Addr} {xs:List V} {i:Nat} {fp:List Addr} (hh:A.handled=none) (Ap:ZipApart z ti tu j1 j2 a b) (hfp:∀ c ∈ [z,ti,tu,j1,j2],c ∈ fp) (I:Inv X pins σ H s) (hf:∀ c ∈ fp,FpOk X pins H c) (st:ZS s.heap z ti tu j1 j2 a b i)
    (qa:SqT X.K H a xs) (lx:xs.length≤i) {Q:Option Value→Shared→Prop} (k:∀ h',Inv X pins σ H { s with heap:=h' }→(∀ c o,c ∉ [z,tu,j1,j2]→s.heap.get? c=some o→h'.get? c=some o)→Q none { s with heap:=h' }) :
    wpAny (model X.prog X.w) A (pyNext (.ref z)) Q E s:=by
  obtain ⟨its,rv,p,_⟩:=I.tuple qa
  have l1:=rv.length
  have hch:∀ c ∈ [z,tu,j1,j2],FpOk X pins H c:=fun c hc=>hf c (hfp c (by
    simp only [List.mem_cons,List.mem_nil_iff,or_false] at hc ⊢
    rcases hc with rfl | rfl | rfl | rfl <;> simp))
  rcases st.zz with ⟨hz,u0,v0,hTO⟩ | ⟨T,bb,o,hz,hT,n1,n2,n3⟩
  · refine pyNext_zipT_end (n2:=0) hh Ap hz st.pr hTO st.w1 p (by simp;omega) fun h' hk=>?_
    have hk':∀ c o,c ∉ [z,tu,j1,j2]→s.heap.get? c=some o→h'.get? c=some o:=fun c o hc e=>by
      simp only [List.mem_cons,List.mem_nil_iff,or_false,not_or] at hc
      exact hk c o hc.1 hc.2.1 hc.2.2.1 hc.2.2.2 e
    exact k h' (I.turnedL (t':=s.toks) (ch:=[z,tu,j1,j2]) hk' hch) hk'
  · refine nextK_end hh Ap hz hT st.pr st.w1 p (by simp;omega) fun h' hk=>?_
    have hk':∀ c o,c ∉ [z,tu,j1,j2]→s.heap.get? c=some o→h'.get? c=some o:=fun c o hc e=>by
      simp only [List.mem_cons,List.mem_nil_iff,or_false,not_or] at hc
      exact hk c o hc.1 hc.2.2.1 hc.2.2.2 e
    exact k h' (I.turnedL (t':=s.toks) (ch:=[z,tu,j1,j2]) hk' hch) hk'
theorem zip_loop {A:Around} {R:Result→Shared→Prop} {z ti tu j1 j2 a b S:Addr} {xs ys:List V} {res:Value} (hh:A.handled=none) (Ap:ZipApart z ti tu j1 j2 a b) (hS:S ∉ [z,ti,tu,j1,j2]) (hl:xs.length=ys.length) (hz:xs.length≤1000) :
    ∀ (n i:Nat) (s:Shared) (H:Hp) (ts:List Addr) (c:Nat),xs.length - i=n→i≤xs.length→Inv X pins σ H s→(∀ c ∈ [z,ti,tu,j1,j2,S],FpOk X pins H c)→(∀ c ∈ [z,ti,tu,j1,j2,S],c < s.heap.objs.size)→ZS s.heap z ti tu j1 j2 a b i →
      s.heap.get? S=some { cls:=.type "list", dict:=none,data:=.seq (ts.map Value.ref).toArray c,slots:=#[] }→ts.length=i→Prs H xs ys ts→SqT X.K H a xs→SqT X.K H b ys →
      (∀ (s':Shared) (H':Hp) (ts':List Addr) (c':Nat),Inv X pins σ H' s'→Same H H'→FpOk X pins H' S→s'.heap.get? S=some { cls:=.type "list", dict:=none,data:=.seq (ts'.map Value.ref).toArray c',slots:=#[] }→ts'.length=xs.length→Prs H' xs ys ts'→R (.ok (.ret res)) s') →
      codeAny (model X.prog X.w) A (.builtin "list.extend.loop" ⟨[.ref S,.ref z,res],[]⟩) R s:=by
  have hSz:S ∉ [z,tu,j1,j2]:=fun m=>hS (by
    simp only [List.mem_cons,List.mem_nil_iff,or_false] at m ⊢
    rcases m with rfl | rfl | rfl | rfl <;> simp)
  have sub:∀ c ∈ [z,ti,tu,j1,j2],c ∈ [z,ti,tu,j1,j2,S]:=fun c hc=>by
    simp only [List.mem_cons,List.mem_nil_iff,or_false] at hc ⊢
    rcases hc with rfl | rfl | rfl | rfl | rfl <;> simp
  intro n
  induction n with
  | zero =>
    intro i s H ts c hn hi I hf hs st gS hts hp qa qb k
    refine codeAny_builtin F.entry_extend_loop ?_;rw [Around.under_plainId F.plain_extend_loop _]
    show wpAny _ A.in1 (pyNext (.ref z) >>= _) _ _ s;refine wpAny_bind (zip_done (A:=A.in1) hh Ap sub I hf st qa (by omega) fun h' I' hk=>?_)
    exact wpAny_pure (k _ H ts c I' (Same.refl _) (hf S (by simp)) (hk S _ hSz gS) (by omega) hp)
  | succ n ih =>
    intro i s H ts c hn hi I hf hs st gS hts hp qa qb k
    refine codeAny_builtin F.entry_extend_loop ?_;rw [Around.under_plainId F.plain_extend_loop _]
    show wpAny _ A.in1 (pyNext (.ref z) >>= _) _ _ s;refine wpAny_bind (zip_next Ap sub I hf hs st qa qb (show i < xs.length by omega) (show i < ys.length by omega) fun t h' ht I' hf' hs' st' hk=>?_)
    have gS':=hk S _ hSz gS
    show wpAny _ A.in1 (updateSeq S (·.push (.ref t)) >>= _) _ _ _
    have g:=same_new ht (.tup [xs[i]'(by omega),ys[i]'(by omega)])
    obtain ⟨c2,gS2⟩ : ∃ c2,(h'.update S (Obj.mapSeq fun x=>x.push (.ref t))).get? S=some { cls:=.type "list", dict:=none,data:=.seq ((ts ++ [t]).map Value.ref).toArray c2,slots:=#[] }:=⟨_,by rw [← push_arr];exact Heap.get?_update_self _ gS' rfl⟩
    have kS:∀ b o,b ∉ [S]→h'.get? b=some o→(h'.update S (Obj.mapSeq fun x=>x.push (.ref t))).get? b=some o:=fun b o hb e=>(Heap.get?_update_other _ _ (fun z=>hb (by simp [z]))).trans e
    have nS:∀ b ∈ [z,ti,tu,j1,j2],b ∉ [S]:=fun b hb z=>hS (by
      have:b=S:=by simpa using z
      rw [← this];exact hb)
    have I3:=I'.turnedL (h':=h'.update S (Obj.mapSeq fun x=>x.push (.ref t))) (t':=s.toks) (ch:=[S]) kS fun b hb=>hf' b (by
      have:b=S:=by simpa using hb
      subst this;simp)
    have st2:ZS (h'.update S (Obj.mapSeq fun x=>x.push (.ref t))) z ti tu j1 j2 a b (i + 1):=by
      refine ⟨kS _ _ (nS ti (by simp)) st'.pr,st'.w1.at fun o e=>kS _ o (nS j1 (by simp)) e,st'.w2.at fun o e=>kS _ o (nS j2 (by simp)) e,?_⟩
      rcases st'.zz with ⟨q1,u,v,q2⟩ | ⟨T,bb,o,q1,q2,q3,q4,q5⟩
      · exact .inl ⟨kS _ _ (nS z (by simp)) q1,u,v,kS _ _ (nS tu (by simp)) q2⟩
      · by_cases e:T=S
        · subst e
          exact .inr ⟨T,bb,_,kS _ _ (nS z (by simp)) q1,gS2,q3,q4,q5⟩
        · exact .inr ⟨T,bb,o,kS _ _ (nS z (by simp)) q1,kS _ _ (by simpa using e) q2,q3,q4,q5⟩
    have pr2:Prs (upd H t (.tup [xs[i]'(by omega),ys[i]'(by omega)])) xs ys (ts ++ [t]):=fun j t' e=>by
      by_cases hj:j < ts.length
      · rw [List.getElem?_append_left hj] at e
        exact hp.same g j t' e
      · rw [List.getElem?_append_right (by omega)] at e
        have hj0:j - ts.length=0:=by
          have:=(List.getElem?_eq_some_iff.mp e).1
          simp at this;omega
        rw [hj0] at e
        obtain rfl:t=t':=Option.some.inj e
        have:j=i:=by omega
        subst this
        exact ⟨_,_,List.getElem?_eq_getElem (by omega),List.getElem?_eq_getElem (by omega),upd_same⟩
    refine wpAny_bind (wpAny_updateSeq gS' rfl (wpAny_pure ⟨plainId_quiet F.plain_extend_loop _,ih (i + 1) _ _ (ts ++ [t]) c2 (by omega) (by omega) I3 hf' (fun b hb=>?_) st2 gS2 (by rw [List.length_append,List.length_singleton,hts]) pr2 (g.seqT qa) (g.seqT qb) fun s' H' ts' c' I2 g2 f2 e2 l2 p2=>k s' H' ts' c' I2 (g.trans g2) f2 e2 l2 p2⟩) ?_ ?_)
    · show b < (h'.update S (Obj.mapSeq fun x=>x.push (.ref t))).objs.size
      rw [Heap.size_update];exact hs' b hb
    · rw [List.size_toArray,List.length_map];exact Nat.le_trans (show ts.length≤1000 by omega) (by decide)
    · show (Array.push _ _).size≤sizeLine + 1
      rw [Array.size_push,List.size_toArray,List.length_map];exact Nat.succ_le_succ (Nat.le_trans (show ts.length≤1000 by omega) (by decide))
end
end L2
namespace L2
open PySem PySem.Spec PyProof.Rows
section
variable {X:Cx} {pins:List (Addr × Obj)} {σ:St}
theorem Inv.adopt {H:Hp} {s:Shared} {a:Addr} {o:HO} (I:Inv X pins σ H s) (hf:FpOk X pins H a) (new:ObjOk X.prog X.w (upd H a o) s.heap a o):Inv X pins σ (upd H a o) s:=by
  have hn:=hf.1
  refine I.step (g':=s.gens) (d':=s.drawn) (t':=s.toks) (h':=s.heap) (ch:=[a]) (fun b hb=>?_) (fun b o _ _ _ e _=>e) (fun b o _ _ _ e _=>⟨o.slots,e⟩) (fun b u hb _ n=>by rw [upd_ne (fun z=>hb (by simp [z]))];exact n)
    (fun b o _ e=>⟨o,e⟩) (fun b xs e=>by rw [upd_ne (ne_of_none e hn)];exact e) (fun b u xs e=>by rw [upd_ne (ne_of_none e hn)];exact e) (fun b ps e=>⟨#[],by rw [upd_ne (ne_of_none e hn),e];simp⟩) (fun m hm=>hm) (fun b u e=>?_) I.bare
  · have:b=a:=by simpa using hb
    subst this
    obtain ⟨f0,f1,f2,f3,f4,f5⟩:=hf
    exact ⟨f3,f1,f4,f5⟩
  · by_cases hb:b=a
    · subst hb
      rw [upd_same] at e;cases e
      exact new
    · rw [upd_ne hb] at e
      exact (I.hok b u e).stay (fun c v _ q=>q) (fun c q=>by rw [upd_ne (ne_of_none q hn)];exact q) fun c xs q=>by rw [upd_ne (ne_of_none q hn)];exact q
theorem vals_refZ:∀ ts:List Addr,Vals (ts.map V.ref) (ts.map Value.ref)
  | []=>.nil
  | t :: r=>.cons rfl (vals_refZ r)
theorem ext_zip {A:Around} {R:Result→Shared→Prop} {s:Shared} {H:Hp} {z ti tu j1 j2 a b S:Addr} {xs ys:List V} {res:Value} {c:Nat} (hh:A.handled=none) (Ap:ZipApart z ti tu j1 j2 a b) (hS:S ∉ [z,ti,tu,j1,j2]) (hl:xs.length=ys.length) (hz:xs.length≤1000)
    (I:Inv X pins σ H s) (hf:∀ c ∈ [z,ti,tu,j1,j2,S],FpOk X pins H c) (hs:∀ c ∈ [z,ti,tu,j1,j2,S],c < s.heap.objs.size) (gz:IsZip s.heap z ti tu .none) (gp:IsPair s.heap ti (.ref j1) (.ref j2)) (gu:IsPair s.heap tu .none .none) (w1:s.heap.IsTupleIter j1 a 0) (w2:s.heap.IsTupleIter j2 b 0)
    (gS:s.heap.get? S=some { cls:=.type "list", dict:=none,data:=.seq #[] c,slots:=#[] }) (qa:SqT X.K H a xs) (qb:SqT X.K H b ys)
    (k:∀ (s':Shared) (H':Hp) (ts':List Addr) (c':Nat),Inv X pins σ H' s'→Same H H'→FpOk X pins H' S→s'.heap.get? S=some { cls:=.type "list", dict:=none,data:=.seq (ts'.map Value.ref).toArray c',slots:=#[] }→ts'.length=xs.length→Prs H' xs ys ts'→R (.ok (.ret res)) s') :
    wpAny (model X.prog X.w) A.in1 (Builtin.List.listExtendWith (.ref S) (.ref z) res)
      (fun fin s'=>match fin with | .done f=>R (.ok f) s' | .again c'=>c'.quiet=true∧codeAny (model X.prog X.w) A c' R s') (fun e s'=>R (.error e) s') s:=by
  have tz:s.TypeIs (.ref z) "zip" := ⟨_,gz,rfl⟩
  have nSz:S≠z:=fun e=>hS (by simp [e])
  unfold Builtin.List.listExtendWith
  refine wpAny_bind (wpAny_typeOf tz ?_)
  have h1:Builtin.List.listSameRef (.ref S) (.ref z)=false:=by simp [Builtin.List.listSameRef,nSz]
  simp only [h1,show (Value.type "zip" == Value.type "list")=false by decide,show (Value.type "zip" == Value.type "tuple")=false by decide,Bool.or_false,Bool.false_eq_true,if_false]
  refine wpAny_bind (wpAny_pyIter_zip gz (wpAny_bind (wpAny_holding (hint_zip tz ?_))))
  refine wpAny_ite_split (fun _=>?_) (fun hab=>absurd (by rfl) hab)
  refine wpAny_bind (wpAny_rule (wpAny_bind ?_))
  unfold Builtin.List.listTouch
  obtain ⟨c1,g1⟩ : ∃ c1,(s.heap.update S (Obj.mapSeq fun x=>x.push Value.none)).get? S=some { cls:=.type "list", dict:=none,data:=.seq #[Value.none] c1,slots:=#[] }:=⟨_,Heap.get?_update_self _ gS rfl⟩
  obtain ⟨c2,g2⟩ : ∃ c2,((s.heap.update S (Obj.mapSeq fun x=>x.push Value.none)).update S (Obj.mapSeq fun x=>x.pop)).get? S=some { cls:=.type "list", dict:=none,data:=.seq #[] c2,slots:=#[] }:=⟨_,Heap.get?_update_self _ g1 rfl⟩
  refine wpAny_bind ?_
  show wpAny _ _ (updateSeq S fun x=>x.push Value.none) _ _ _
  refine wpAny_updateSeq gS rfl ?_ (by decide) (by decide)
  show wpAny _ _ (updateSeq S fun x=>x.pop) _ _ _
  refine wpAny_updateSeq g1 rfl (wpAny_pure ⟨plainId_quiet F.plain_extend_loop _,?_⟩) (by decide) (by decide)
  generalize e2:(s.heap.update S (Obj.mapSeq fun x=>x.push Value.none)).update S (Obj.mapSeq fun x=>x.pop)=h2 at g2
  have kS:∀ b o,b ∉ [S]→s.heap.get? b=some o→h2.get? b=some o:=fun b o hb e=>by
    rw [← e2]
    have hb':S≠b:=fun z=>hb (by simp [z])
    exact (Heap.get?_update_other _ _ hb').trans ((Heap.get?_update_other _ _ hb').trans e)
  have nS:∀ b ∈ [z,ti,tu,j1,j2],b ∉ [S]:=fun b hb z=>hS (by
    have:b=S:=by simpa using z
    rw [← this];exact hb)
  have I2:=I.turnedL (h':=h2) (t':=s.toks) (ch:=[S]) kS fun b hb=>hf b (by
    have:b=S:=by simpa using hb
    subst this;simp)
  have sz:h2.objs.size=s.heap.objs.size:=by rw [← e2,Heap.size_update,Heap.size_update]
  show codeAny _ A _ R { s with heap:=h2 }
  exact zip_loop hh Ap hS hl hz _ 0 { s with heap:=h2 } H [] c2 rfl (Nat.zero_le _) I2 hf (fun b hb=>by show b < h2.objs.size;rw [sz];exact hs b hb)
    ⟨kS _ _ (nS ti (by simp)) gp,w1.at fun o e=>kS _ o (nS j1 (by simp)) e,w2.at fun o e=>kS _ o (nS j2 (by simp)) e,.inl ⟨kS _ _ (nS z (by simp)) gz,_,_,kS _ _ (nS tu (by simp)) gu⟩⟩ g2 rfl (fun j t e=>by simp at e) qa qb k
theorem list_zip {A:Around} {E:Value→Shared→Prop} {s:Shared} {H:Hp} {z ti tu j1 j2 a b:Addr} {xs ys:List V} {Q:Value→Shared→Prop} (hh:A.handled=none) (Ap:ZipApart z ti tu j1 j2 a b) (hl:xs.length=ys.length) (hz:xs.length≤1000)
    (I:Inv X pins σ H s) (hf:∀ c ∈ [z,ti,tu,j1,j2],FpOk X pins H c) (hs:∀ c ∈ [z,ti,tu,j1,j2],c < s.heap.objs.size) (gz:IsZip s.heap z ti tu .none) (gp:IsPair s.heap ti (.ref j1) (.ref j2)) (gu:IsPair s.heap tu .none .none) (w1:s.heap.IsTupleIter j1 a 0) (w2:s.heap.IsTupleIter j2 b 0) (qa:SqT X.K H a xs) (qb:SqT X.K H b ys)
    (k:∀ (s':Shared) (H':Hp) (d:Addr) (ts:List Addr),Inv X pins σ H' s'→Same H H'→H d=none→H' d=some (.lst (ts.map V.ref))→ts.length=xs.length→Prs H' xs ys ts→Q (.ref d) s') :
    wpAny (model X.prog X.w) A (call (.type "list") [.ref z]) Q E s:=by
  refine callType_codes (Q₁:=fun obj s₁=>obj=.ref s.heap.objs.size∧s₁={ s with heap:=s.heap.push { cls:=.type "list", data:=.seq #[] } }) F.called_list (F.typeCall_list_1 _) F.entry_list_init
    (code_list_new _ ⟨rfl,rfl⟩) fun obj s₁ h₁=>?_
  obtain ⟨rfl,rfl⟩:=h₁
  have hS:(s.heap.push { cls:=.type "list", data:=.seq #[] }).get? s.heap.objs.size=some { cls:=.type "list", data:=.seq #[] }:=Heap.get?_push_size _ rfl
  refine ⟨⟨_,hS,rfl⟩,F.args_list_init_2 _ _,?_⟩
  show wpAny _ _ (do let old ← Builtin.List.listItems (.ref s.heap.objs.size);Builtin.List.listUpdate (.ref s.heap.objs.size) (fun _=>#[]);letGo old.toList.reverse;Builtin.List.listExtendWith (.ref s.heap.objs.size) (.ref z) .none) _ _ _
  refine wpAny_bind ?_;unfold Builtin.List.listItems
  refine wpAny_bind (wpAny_seqItems hS rfl (wpAny_pure ?_))
  show wpAny _ _ (updateSeq s.heap.objs.size (fun _=>#[]) >>= fun _=>letGo (#[]:Array Value).toList.reverse >>= fun _=>Builtin.List.listExtendWith (.ref s.heap.objs.size) (.ref z) .none) _ _ _
  refine wpAny_bind (wpAny_updateSeq hS rfl ?_)
  obtain ⟨c2,g2⟩ : ∃ c2,((s.heap.push { cls:=.type "list", data:=.seq #[] }).update s.heap.objs.size (Obj.mapSeq (fun _=>(#[]:Array Value)))).get? s.heap.objs.size=some { cls:=.type "list", dict:=none,data:=.seq #[] c2,slots:=#[] }:=⟨_,Heap.get?_update_self _ hS rfl⟩
  have oth:∀ b o,s.heap.get? b=some o→((s.heap.push { cls:=.type "list", data:=.seq #[] }).update s.heap.objs.size (Obj.mapSeq (fun _=>(#[]:Array Value)))).get? b=some o :=
    fun b o e=>(Heap.get?_update_other _ _ (Nat.ne_of_lt (Heap.lt_size e)).symm).trans (Heap.get?_push_of_some _ e)
  have sz:((s.heap.push { cls:=.type "list", data:=.seq #[] }).update s.heap.objs.size (Obj.mapSeq (fun _=>(#[]:Array Value)))).objs.size=s.heap.objs.size + 1:=by rw [Heap.size_update,Heap.size_push]
  generalize (s.heap.push { cls:=.type "list", data:=.seq #[] }).update s.heap.objs.size (Obj.mapSeq (fun _=>(#[]:Array Value)))=h2 at *
  refine wpAny_bind (wpAny_letGo ?_)
  have I2:Inv X pins σ H { s with heap:=h2 }:=I.kept (t':=s.toks) oth
  have nS:s.heap.objs.size ∉ [z,ti,tu,j1,j2]:=fun m=>absurd (hs _ m) (Nat.lt_irrefl _)
  have fS:FpOk X pins H s.heap.objs.size:=I.fpOk (Nat.le_refl _) I.fresh
  have cs:∀ c ∈ [z,ti,tu,j1,j2,s.heap.objs.size],c ∈ [z,ti,tu,j1,j2]∨c=s.heap.objs.size:=fun c hc=>by
    simp only [List.mem_cons,List.mem_nil_iff,or_false] at hc ⊢
    rcases hc with h | h | h | h | h | h <;> simp [h]
  refine ext_zip (A:=A.in1) (c:=c2) hh Ap nS hl hz I2 (fun c hc=>?_) (fun c hc=>?_) (oth _ _ gz) (oth _ _ gp) (oth _ _ gu) (w1.at fun o e=>oth _ o e) (w2.at fun o e=>oth _ o e) g2 qa qb fun s' H' ts c' I3 g3 f3 e3 l3 p3=>⟨rfl,?_⟩
  · rcases cs c hc with h | h
    · exact hf c h
    · rw [h];exact fS
  · show c < h2.objs.size
    rw [sz]
    rcases cs c hc with h | h
    · exact Nat.lt_succ_of_lt (hs c h)
    · rw [h];exact Nat.lt_succ_self _
  · have I4:=I3.adopt (o:=.lst (ts.map V.ref)) f3 ⟨by rw [List.length_map];exact Nat.le_trans (show ts.length≤1000 by omega) (by decide),ts.map Value.ref,c',vals_refZ ts,e3⟩
    have g4:=same_new f3.1 (.lst (ts.map V.ref))
    exact k s' _ s.heap.objs.size ts I4 (g3.trans g4) I.fresh upd_same l3 (p3.same g4)
def tListZip (K:PySem.W.Frag) (ta:TA):TE:=fun σ H Q=>ta σ H fun vs H1=>∃ (a b:Addr) (xs ys:List V),vs=[.ref a,.ref b]∧SqT K H1 a xs∧SqT K H1 b ys∧xs.length=ys.length∧xs.length≤1000 ∧
  ∀ (d:Addr) (ts:List Addr) (H':Hp),Same H1 H'→H1 d=none→H' d=some (.lst (ts.map V.ref))→ts.length=xs.length→Prs H' xs ys ts→Q (.ref d) H'
theorem pe_listZip {e1 e2:Expr} {ta:TA} {p pos p2 pos2:Pos} (hc:X.calm=true) (ha:PA X [e1,e2] ta) (hm:X.mg "list" = Option.none) (hm2:X.mg "zip" = Option.none) (hg:Gl X "list" := by rfl) (hg2:Gl X "zip" := by rfl)
    (hs:starEach [e1,e2] X.env=[(false,eval e1 X.env),(false,eval e2 X.env)]:=by rfl) (hs1:starEach [e2] X.env=[(false,eval e2 X.env)]:=by rfl)
    (hs2:starEach [Expr.Call (.Name "zip" p2) [e1,e2] [] pos2] X.env=[(false,eval (Expr.Call (.Name "zip" p2) [e1,e2] [] pos2) X.env)]:=by rfl) :
    PE X (.Call (.Name "list" p) [.Call (.Name "zip" p2) [e1,e2] [] pos2] [] pos) (tListZip X.K ta):=by
  intro pins s σ H Q I h
  refine wpAny_Call_Name_kw (ld_blt I hg hm boot_list ?_)
  refine PyProof.Rows.callWith_type1 ?_ hs2 rfl
  rw [hs2]
  show wpAny _ _ (spliced ((false,eval _ X.env) :: [])) _ _ s
  refine Calls.spliced_cons (wpAny_Call_Name_kw (ld_blt I hg2 hm2 PyProof.Rows.boot_zip ?_))
  refine PyProof.Rows.callWith_type1 (thn (ha pos2 pins s σ H _ I h) fun us s1 ⟨vs,H1,I1,r1,q1⟩=>?_) (by rw [hs,hs1]) (by rw [hs1];rfl)
  obtain ⟨a,b,xs,ys,e,qa,qb,hl,hz,q⟩:=q1
  subst e
  obtain ⟨u1,u2,e3,r3,r4⟩:=r1.two
  subst e3
  cases (show u1=Value.ref a from r3)
  cases (show u2=Value.ref b from r4)
  obtain ⟨its,rv,pl,_⟩:=I1.tuple qa
  obtain ⟨its2,rv2,pl2,_⟩:=I1.tuple qb
  have la:@LT.lt Nat _ a s1.heap.objs.size:=by obtain ⟨o,e,_⟩:=pl;exact Heap.lt_size e
  have lb:@LT.lt Nat _ b s1.heap.objs.size:=by obtain ⟨o,e,_⟩:=pl2;exact Heap.lt_size e
  refine call_zipT pl pl2 fun h' gz gp gu w1 w2 hk=>Calls.spliced_nil ?_
  have I2:Inv X pins σ H1 { s1 with heap:=h' }:=I1.kept (t':=s1.toks) hk
  refine list_zip (s:={ s1 with heap:=h' }) (I1.ok.hd hc) ?_ hl hz I2 (fun c hc=>?_) (fun c hc=>?_) gz gp gu w1 w2 qa qb fun s' H' d ts I3 g3 hd hd' l3 p3=>⟨.ref d,H',I3,rfl,q d ts H' g3 hd hd' l3 p3⟩
  · constructor <;> (refine nne ?_;omega)
  · have hle:@LE.le Nat _ s1.heap.objs.size c:=by
      simp only [List.mem_cons,List.mem_nil_iff,or_false] at hc
      rcases hc with rfl | rfl | rfl | rfl | rfl <;> omega
    exact I1.fpOk hle (I1.hok.fresh hle)
  · show c < h'.objs.size
    have ht:=Heap.lt_size gz
    have up:∀ m:Nat,m≤4→s1.heap.objs.size + m < h'.objs.size:=fun m hm=>Nat.lt_of_le_of_lt (Nat.add_le_add_left hm _) ht
    simp only [List.mem_cons,List.mem_nil_iff,or_false] at hc
    rcases hc with rfl | rfl | rfl | rfl | rfl
    · exact up 4 (by decide)
    · exact up 2 (by decide)
    · exact up 3 (by decide)
    · exact up 0 (by decide)
    · exact up 1 (by decide)
end
end L2
namespace L2
open PySem PySem.Spec PyProof.Rows PySem.W
theorem exc_ans {K:Frag} {a:Addr} {t c:Value} (e:kitOne K t c=some true):Answers (fun s=>K.In s.heap∧∃ ob,s.heap.get? a=some ob∧ob.cls=t) (.ref a) c true:=by
  intro dep tk prog w A R s hs
  obtain ⟨h0,g,d,tt,os⟩:=s
  obtain ⟨⟨X,ob,hob,hcl⟩,hq⟩:=hs
  have LT:Looks (model prog w) h0 (typeOf (.ref a)) t:=hcl ▸ (Looks.ld hob).andThen .now
  unfold kitOne at e
  unfold Builtin.«isinstance.nested»
  refine wpAny_bind (LT.at ?_)
  by_cases q:(t == c)=true
  · rw [if_pos q]
    first
      | ((repeat lk);exact hq tt)
      | exact wpAny_bind (wpAny_rule (hq tt))
      | exact wpAny_bind (wpAny_rule (wpAny_pure (hq tt)))
  · rw [if_neg q] at e
    rw [if_neg q]
    obtain ⟨hty,his,hsub⟩:=kit_cls (M:=model prog w) X e
    have LI:Looks (model prog w) h0 (isInstance (.ref a) c) true:=LT.andThen hsub
    refine wpAny_bind (hty.at ?_)
    rw [if_pos (by decide)]
    k_delta "plainIsInstance"
    refine wpAny_bind (wpAny_bind (his.at ?_))
    simp only [Bool.not_true,Bool.false_eq_true,if_false]
    refine wpAny_bind (LI.at ?_)
    first
      | exact wpAny_pure (wpAny_pure (hq tt))
      | (simp only [if_true];first | exact wpAny_pure (wpAny_pure (hq tt)) | exact wpAny_pure (hq tt) | exact wpAny_bind (wpAny_pure (wpAny_pure (hq tt))))
def clsOf:V→Option Value
  | .ref C=>some (.ref C)
  | .ty T=>some (.type T)
  | _=>none
theorem relV_cls {v:V} {u c:Value} (r:RelV v u) (h:clsOf v=some c):u=c:=by
  cases v with
  | ref C=>cases h;exact r
  | ty T=>cases h;exact r
  | _=>cases h
abbrev rIsX (K:Frag):List V→Hp→VK→Prop:=fun xs H Q=>∃ a t v c,xs=[.ref a,v]∧H a=some (ExcO a t)∧clsOf v=some c∧kitOne K t c=some true∧Q (.bl true) H
section
variable {X:Cx}
theorem call_isinstX:CallR X (.builtin "isinstance") (rIsX X.K):=by
  intro pins s σ H xs us Q I r h
  obtain ⟨a,t,v,c,rfl,ha,hc,e,q⟩:=h
  obtain ⟨u,c',rfl,rx,rc⟩:=vals2 r
  cases (show u=Value.ref a from rx)
  cases relV_cls rc hc
  have hob:∃ ob,s.heap.get? a=some ob∧ob.cls=t:=(I.hok a _ ha).1
  exact call_isinstance (S:=fun _ R s=>(X.K.In s.heap∧∃ ob,s.heap.get? a=some ob∧ob.cls=t)∧∀ tk,R (.ok (.ret (.bool true))) { s with toks:=tk })
    (fun prog w A R s hs=>isinstance_outer (exc_ans e 0 _ prog w A R s hs) (fun z=>nomatch z)) ⟨⟨I.kIn,hob⟩,fun tk=>⟨.bl true,H,I.tok tk,rfl,q⟩⟩
end
end L2
namespace L2
open PySem PySem.Spec PyProof.Rows PySem.W PySem.Calls Builtin Builtin.ObjectAttr Builtin.Getset_descriptor
structure XcK (K:Frag) (D:Addr):Prop where
  ga:findIn K (.ref D) "__getattribute__" = some (some (.builtin "BaseException.__getattribute__"))
  gn:findIn K (.ref D) "__getattr__" = some none
  gc:findIn K (.ref D) "__class__" = some (some (.builtin "object.__class__"))
  sb:mroIn K D (.type "BaseException")=some true
  so:mroIn K D (.type "object")=some true
section
variable {prog:Program} {w:World} {A:Around} {E:Value→Shared→Prop} {K:Frag} {a D:Addr} {h:Heap} {g:Array GenState} {d:Drawn} {t:Nat} {os:OsState}
theorem xc_get {R:Result→Shared→Prop} {tp:Value} (X:K.In h) (k:XcK K D) (L0:Looks (model prog w) h (typeOf (.ref a)) (.ref D)) (q:R (.ok (.ret (.ref D))) ⟨h,g,d,t,os⟩) :
    codeAny (model prog w) A (.call (.builtin "getset_descriptor.__get__") ⟨[.builtin "object.__class__", .ref a,tp],[]⟩) R ⟨h,g,d,t,os⟩:=by
  have L1:=looks_mroIn (M:=model prog w) X k.so
  refine codeAny_call_builtin KF.slot_gs.plain KF.entry_gs
    (KF.slot_gs.check _ _ _ _ _ _ _ _ KF.type_class (KF.args_gs _ _ _) ?_)
  unfold Builtin.«getset_descriptor.__get__» descrGet;rw [dga_obj];refine wpAny_bind (wpAny_pure ?_)
  unfold descrGetter descrCheckInstance descrNameAndClass isInstance;simp only [KF.owner_class]
  repeat lk
  refine ⟨Code.quiet_builtin _ (by decide +kernel),
    codeAny_builtin KF.entry_class ?_⟩
  unfold Builtin.«object.__class__» shownTypeOf;(repeat lk)
  exact q
theorem xc_entry {tk:Tok} {Q:Fin→Shared→Prop} (X:K.In h) (k:XcK K D) (L0:Looks (model prog w) h (typeOf (.ref a)) (.ref D)) (q:Q (.done (.ret (.ref D))) ⟨h,g,d,t,os⟩) :
    wpAny (model prog w) A (Builtin.«object.__getattribute__» ⟨[.ref a,.str "__class__" tk],[]⟩) Q E ⟨h,g,d,t,os⟩:=by
  have LC:=looks_findIn (M:=model prog w) X k.gc
  have hT5:(⟨h,g,d,t,os⟩ : Shared).TypeIs (.builtin "object.__class__") "getset_descriptor" := F.typeOf_object_class
  have f5:=F.typeOf_object_class;have f6:=F.slot_gs_get.lookup;have f7:=F.slot_gs_set.lookup
  repeat (any_goals (first | assumption | with_reducible refine wpAny_bind (L0.at ?_) | with_reducible refine wpAny_bind (LC.at ?_) | wp_step))
  refine xc_get X k L0 ?_
  repeat (any_goals (first | assumption | wp_step))
theorem xc_check {rest:List Value} {Q:Unit→Shared→Prop} {s:Shared} (X:K.In s.heap) (k:XcK K D) (L0:Looks (model prog w) s.heap (typeOf (.ref a)) (.ref D)) (ha:argsOk "BaseException.__getattribute__" ⟨.ref a :: rest,[]⟩) (q:Q () s) :
    wpAny (model prog w) A (checkBuiltinCall "BaseException.__getattribute__" ⟨.ref a :: rest,[]⟩) Q E s:=by
  have L1:=looks_mroIn (M:=model prog w) X k.sb
  have L2:Looks (model prog w) s.heap (isInstance (.ref a) (.type "BaseException")) true:=L0.andThen L1
  have hs:splitId "BaseException.__getattribute__" = some ("BaseException", "__getattribute__"):=by decide +kernel
  have hk:builtinKind "BaseException.__getattribute__" = some .slot:=by decide +kernel
  simp only [checkBuiltinCall,hk,hs]
  refine wpAny_bind (L2.at ?_)
  simp only [Bool.not_true,Bool.false_eq_true,if_false]
  cases e:Manifest.signature? "BaseException.__getattribute__" with
  | none=>exact wpAny_pure q
  | some sig =>
    simp only [argsOk,e] at ha
    have h2:Bind.checkArgs "BaseException.__getattribute__" sig ⟨.ref a :: rest,[]⟩=pure ():=ha
    show wpAny _ _ (Bind.checkArgs "BaseException.__getattribute__" sig ⟨.ref a :: rest,[]⟩) Q E s;rw [h2];exact wpAny_pure q
theorem xc_call {tk:Tok} {R:Result→Shared→Prop} (X:K.In h) (k:XcK K D) (L0:Looks (model prog w) h (typeOf (.ref a)) (.ref D)) (q:R (.ok (.ret (.ref D))) ⟨h,g,d,t,os⟩) :
    codeAny (model prog w) A (.call (.builtin "BaseException.__getattribute__") ⟨[.ref a,.str "__class__" tk],[]⟩) R ⟨h,g,d,t,os⟩ :=
  codeAny_call_builtin F.excAttr_ValueError.ga.plain F.entry_bexc_ga (xc_check X k L0 (F.args_bexc_ga _ _) (xc_entry X k L0 q))
theorem xc_by {tk:Tok} {Q:Value→Shared→Prop} (X:K.In h) (k:XcK K D) (L0:Looks (model prog w) h (typeOf (.ref a)) (.ref D)) (q:Q (.ref D) ⟨h,g,d,t,os⟩) :
    wpAny (model prog w) A (getAttrBy (.ref a) (.str "__class__" tk) false) Q E ⟨h,g,d,t,os⟩:=by
  have LG:=looks_findIn (M:=model prog w) X k.ga
  have LN:=looks_findIn (M:=model prog w) X k.gn
  have f3:=F.excAttr_ValueError.ga.bind (.ref a)
  repeat (any_goals (first | assumption | with_reducible refine wpAny_bind (L0.at ?_) | with_reducible refine wpAny_bind (LG.at ?_) | with_reducible refine wpAny_bind (LN.at ?_) | wp_step))
  refine xc_call X k L0 ?_
  repeat (any_goals (first | assumption | wp_step))
theorem xc_attr {Q:Option Value→Shared→Prop} (X:K.In h) (k:XcK K D) (L0:Looks (model prog w) h (typeOf (.ref a)) (.ref D)) (q:Q (some (.ref D)) ⟨h,g,d,t + 1,os⟩) :
    wpAny (model prog w) A (getAttr? (.ref a) "__class__") Q E ⟨h,g,d,t,os⟩:=by
  unfold getAttr? getAttrBy?
  repeat (any_goals (first | assumption | with_reducible apply xc_by X k L0 | wp_step))
end
theorem exc_not {K:Frag} {a D:Addr} {c:Value} (k:XcK K D) (e:kitOne K (.ref D) c=some false):Answers (fun s=>K.In s.heap∧∃ ob,s.heap.get? a=some ob∧ob.cls=.ref D) (.ref a) c false:=by
  intro dep tk prog w A R s hs
  obtain ⟨h0,g,d,tt,os⟩:=s
  obtain ⟨⟨X,ob,hob,hcl⟩,hq⟩:=hs
  have LT:Looks (model prog w) h0 (typeOf (.ref a)) (.ref D):=hcl ▸ (Looks.ld hob).andThen .now
  have LD:Looks (model prog w) h0 (isType (.ref D)) true:=by
    obtain ⟨cd,hc,_⟩:=Option.bind_eq_some_iff.mp k.so
    unfold clsIn at hc
    split at hc
    · rename_i c' d' cd' sl' ho
      intro A' Q' E' s' kk qq
      unfold isType loadHead;exact wpAny_bind (wpAny_loadPart (kk _ _ (X _ _ ho)) (wpAny_pure qq))
    · cases hc
  unfold kitOne at e
  unfold Builtin.«isinstance.nested»
  refine wpAny_bind (LT.at ?_)
  by_cases q:(Value.ref D == c)=true
  · rw [if_pos q] at e;cases e
  · rw [if_neg q] at e
    rw [if_neg q]
    obtain ⟨hty,his,hsub⟩:=kit_cls (M:=model prog w) X e
    have LI:Looks (model prog w) h0 (isInstance (.ref a) c) false:=LT.andThen hsub
    refine wpAny_bind (hty.at ?_)
    rw [if_pos (by decide)]
    k_delta "plainIsInstance"
    refine wpAny_bind (wpAny_bind (his.at ?_))
    simp only [Bool.not_true,Bool.false_eq_true,if_false]
    refine wpAny_bind (LI.at ?_)
    simp only [Bool.false_eq_true,if_false]
    refine wpAny_bind (xc_attr X k LT (wpAny_bind (LD.at ?_)))
    simp only [Bool.not_true,Bool.false_eq_true,if_false]
    refine wpAny_bind (wpAny_rule (hsub.at ?_))
    first
      | exact wpAny_pure (hq _)
      | exact wpAny_pure (wpAny_pure (hq _))
      | exact wpAny_bind (wpAny_pure (wpAny_pure (hq _)))
abbrev rNotX (K:Frag):List V→Hp→VK→Prop:=fun xs H Q=>∃ (a D:Addr) (v:V) (c:Value),xs=[.ref a,v]∧H a=some (ExcO a (.ref D))∧clsOf v=some c∧XcK K D∧kitOne K (.ref D) c=some false∧Q (.bl false) H
section
variable {X:Cx}
theorem call_isinstN:CallR X (.builtin "isinstance") (rNotX X.K):=by
  intro pins s σ H xs us Q I r h
  obtain ⟨a,D,v,c,rfl,ha,hc,k,e,q⟩:=h
  obtain ⟨u,c',rfl,rx,rc⟩:=vals2 r
  cases (show u=Value.ref a from rx)
  cases relV_cls rc hc
  have hob:∃ ob,s.heap.get? a=some ob∧ob.cls=.ref D:=(I.hok a _ ha).1
  exact call_isinstance (S:=fun _ R s=>(X.K.In s.heap∧∃ ob,s.heap.get? a=some ob∧ob.cls=.ref D)∧∀ tk,R (.ok (.ret (.bool false))) { s with toks:=tk })
    (fun prog w A R s hs=>isinstance_outer (exc_not k e 0 _ prog w A R s hs) (fun z=>nomatch z)) ⟨⟨I.kIn,hob⟩,fun tk=>⟨.bl false,H,I.tok tk,rfl,q⟩⟩
end
end L2
namespace L2
open PySem PySem.Spec PyProof.Rows HT
section
variable {prog:Program} {w:World} {A:Around} {E:Value→Shared→Prop} {s:Shared}
theorem getItem_tuple_all {t sl:Addr} {items:Array Value} {vl vu:Value} {lo hi:Option Int} {Q:Value→Shared→Prop} (ht:IsTup s.heap t items) (hs:s.heap.IsSliceOf sl vl vu .none) (pl:IsPart vl lo) (pu:IsPart vu hi)
    (hw:sIx items.size 0 lo=0∧sIx items.size items.size hi=items.size) (h:Q (.ref t) s):wpAny (model prog w) A (getItem (.ref t) (.ref sl)) Q E s:=by
  obtain ⟨os,hos,hcs,hds⟩:=id hs
  have hTs:s.TypeIs (.ref sl) "slice" := ⟨os,hos,hcs⟩
  unfold getItem
  try with_reducible refine wpAny_holding ?_
  first | refine wpAny_bind (wpAny_pure ?_) | skip
  refine wpAny_bind (wpAny_sequenceKey ht.typeIs (by decide) ?_)
  refine wpAny_bind (wpAny_callSpecial?_slot (name:=Str.ofString "__getitem__") ht.typeIs PyProof.Rows.slot_tuple_getitem
    (wpAny_call_entry PyProof.Rows.slot_tuple_getitem ht.typeIs entry_tuple_getitem ?_ (args_tuple_getitem _ _)))
  show wpAny _ _ (Builtin.Tuple.tupleItemsOf (.ref t) >>= _) _ _ s
  refine wpAny_bind (tupleItemsOf_ ht ?_)
  refine wpAny_bind (wpAny_typeOf hTs ?_)
  rw [if_pos (by decide)]
  refine wpAny_bind (sliceApplied_gen hs pl pu ?_)
  have hyes:((((sIx items.size 0 lo:Nat):Int) == 0 && (1:Int) == 1 && (sIx items.size items.size hi - sIx items.size 0 lo) == items.size)=true):=by
    rw [hw.1,hw.2];simp
  show wpAny _ _ (if (((sIx items.size 0 lo:Nat):Int) == 0 && (1:Int) == 1 && (sIx items.size items.size hi - sIx items.size 0 lo) == items.size)=true then _ else _) _ _ s
  rw [if_pos hyes]
  first
    | refine wpAny_bind (m:=Builtin.Tuple.tupleIsExact _) (wpAny_bind (wpAny_typeOf ht.typeIs (wpAny_pure ?_)))
    | refine wpAny_bind (wpAny_bind (m:=Builtin.Tuple.tupleIsExact _) (wpAny_bind (wpAny_typeOf ht.typeIs (wpAny_pure ?_))))
  rw [if_pos (by decide)]
  exact wpAny_bind (wpAny_rule (wpAny_pure ⟨_,rfl,wpAny_pure h⟩))
end
section
variable {X:Cx}
def rSlG (K:PySem.W.Frag):V→Option Int→Option Int→Hp→VK→Prop:=fun x lo hi H Q=>∃ a xs,x=.ref a∧SqT K H a xs∧∀ p H',Same H H'→SqT K H' p (cutV xs lo hi)→Q (.ref p) H'
theorem sl_tupG:SlR X (rSlG X.K):=by
  intro pins s σ H x v vl vu lo hi sl Q I rx hs pl pu h
  obtain ⟨a,xs,rfl,hx,q⟩:=h
  by_cases hw:HT.sIx xs.length 0 lo=0∧HT.sIx xs.length xs.length hi=xs.length
  · cases rx
    obtain ⟨its,r,ht,hz⟩:=I.tuple hx
    have hlen:its.toArray.size=xs.length:=by rw [List.size_toArray];exact r.length.symm
    refine ⟨"tuple", _,PyProof.Rows.slot_tuple_getitem.lookup,ht.typeIs,?_⟩
    refine getItem_tuple_all ht hs pl pu (by rw [hlen];exact hw) ⟨.ref a,H,I,rfl,q a H (Same.refl _) ?_⟩
    have e:cutV xs lo hi=xs:=by
      unfold cutV
      rw [hw.1,hw.2,List.drop_zero,Nat.sub_zero,List.take_length]
    rw [e];exact hx
  · exact sl_tup pins s σ H _ v vl vu lo hi sl Q I rx hs pl pu ⟨a,xs,rfl,hx,hw,fun p hp=>q p _ (same_new hp _) (SqT.of upd_same)⟩
end
end L2
namespace K26
open PySem L2 TM TT K9 K11
theorem sT {H H5:Hp} {p:Addr} {o:HO} (hp:H p=none) (hX:upd H p o=H5):Same H H5:=hX ▸ same_new hp o
theorem fT {K:PySem.W.Frag} {H H5:Hp} {p:Addr} {xs:List V} (hX:upd H p (.tup xs)=H5):SqT K H5 p xs:=hX ▸ SqT.of upd_same
theorem fL {H H5:Hp} {p:Addr} {xs:List V} (hX:upd H p (.lst xs)=H5):H5 p=some (.lst xs):=hX ▸ upd_same
theorem dec_int (a b:Int):decide (V.int a=V.int b)=decide (a=b):=by
  by_cases h:a=b
  · rw [decide_eq_true h,decide_eq_true (congrArg V.int h)]
  · rw [decide_eq_false h,decide_eq_false fun z=>h (V.int.inj z)]
theorem par (c:Nat):decide (V.int ((0 + (c:Int)) % 2)=V.int 0)=(c % 2 == 0):=by
  rw [dec_int]
  by_cases h:c % 2=0
  · rw [decide_eq_true (by omega)];simp [h]
  · rw [decide_eq_false (by omega)];simp [h]
abbrev kpt (k:Bool) (a m:Int):Int:=a + m * (if k then 1 else 0)
theorem kpt_if (k:Bool) (a m:Int):(if k=true then a + m else a)=kpt k a m:=by cases k <;> simp [kpt]
theorem cm (k:Bool) (x:Int):CMul x (if k then 1 else 0):=.inr (by cases k <;> decide)
def spWide (K:PySem.W.Frag):Sp:=fun vs H Q _=>∃ (n:Str) (a:Int) (c:Nat) (pi:Addr) (ivs:List V) (inner:List Tm),vs=[.str n,.int a,.int (c:Int),.ref pi]∧SqT K H pi ivs∧TmAll K H ivs inner∧ivs.length≤5∧c≤30∧∀ (v:V) (H':Hp),Same H H'→TmV K H' v (wideT n a c inner)→Q v H'
def spDeep (K:PySem.W.Frag):Sp:=fun vs H Q _=>∃ (n:Str) (a:Int) (c:Nat) (pi:Addr) (ivs:List V) (inner:List Tm),vs=[.str n,.int a,.int (c:Int),.ref pi]∧SqT K H pi ivs∧TmAll K H ivs inner∧ivs.length≤5∧c≤30∧∀ (v:V) (H':Hp),Same H H'→TmV K H' v (deepT n a inner c)→Q v H'
def spKept (K:PySem.W.Frag):Sp:=fun vs H Q _=>∃ (v:V) (n:Str) (k:Bool) (a:Int) (bs:List Tm) (m:Int),vs=[v,.int m]∧TmV K H v (putT n k a bs)∧Q (.int (kpt k a m)) H
def spPut (K:PySem.W.Frag) (n:Nat):Sp:=fun vs H Q _=>∃ (v:V) (t:Tm) (m:Int) (bv:V) (bt:Tree Str),vs=[v,.int m,bv]∧TmV K H v t∧lv t≤n∧sz t≤100∧(cls t≠[]→TrV K H bv bt)∧∀ (v':V) (H':Hp),Same H H'→TrV K H' v' (fillT (fun l xs=>opR l m xs) (fun _ _=>bt) t)→Q v' H'
section
variable {P:Program} {w:World} {K:PySem.W.Frag} {mg:Str→Option Value} {base:Heap} {f:Addr} {fd:FuncData}
theorem scWide:FnScope ["_law_name", "_law_add", "_law_count", "_law_inner"] ["_law_name", "_law_add", "_law_count", "_law_inner"] (defScope sWide):=⟨rfl,rfl,rfl,by decide +kernel,rfl,by decide +kernel,by decide +kernel⟩
theorem ok_wide (F:Fun K "_law_wide" "_law_wide" sWide f fd) (G:Gm mg):FnOk P w K mg base CX0 1 f fd ["_law_name", "_law_add", "_law_count", "_law_inner"] (spWide K):=by
  refine F.ok scWide (fun vs H Q E h=>?_) (fun cdv A outer s H vs Q E hr h=>?_)
  · obtain ⟨n,a,c,pi,ivs,inner,rfl,_⟩:=h
    rfl
  obtain ⟨n,a,c,pi,ivs,inner,rfl,hpi,hiv,hi5,hc,q⟩:=h
  refine ⟨_,(pss_one (ps_ret (pe_tup (pa_cons (pe_str) (pa_cons (pv 0) (pa_cons (pe_bl) (pa_cons (pv 1) (pa_cons (pe_op op_catG (pe_callTy call_tuple_of rfl G.tup PyProof.Rows.boot_tuple (pa_cons (pe_lcompG (CompG.many (xs:=["_law_k"]) (caps:=["_law_name"]) (cap:=[0]) (cs:=[_]) rfl rfl (by decide +kernel) (by decide +kernel) (by decide +kernel) (by decide +kernel) (by decide +kernel) (by decide +kernel) rfl rfl rfl) rfl (pi_range1 rfl G.rng (pa_cons (pv 2) pa_nil)) (pg_c1 (CompG.many (xs:=["_law_k"]) (caps:=["_law_name"]) (cap:=[0]) (cs:=[_]) rfl rfl (by decide +kernel) (by decide +kernel) (by decide +kernel) (by decide +kernel) (by decide +kernel) (by decide +kernel) rfl rfl rfl)) (fun _ _ _ _=>pf_nil) (fun _ _ _ _=>(pe_tup (pa_cons (pe_str) (pa_cons (pv 1) (pa_cons (pe_bl) (pa_cons (pe_int) (pa_cons (pe_tup pa_nil) pa_nil)))))))) pa_nil)) (pv 3)) pa_nil)))))))),?_⟩
  refine ⟨_,rfl,_,rfl,_,rfl,(c:Int),rfl,by omega,by omega,fun l0 hl0=>?_⟩
  refine c1_range (lo:=0) (n:=c) (cs:=[some (.str n)]) (tt:=fun _ H Q=>Q true H) (fun j ys H'=>H' l0=some (.lst ys)∧Same H H'∧TmAll K H' ys (List.replicate j (putT n true 0 [])))
    ⟨upd_same,same_new hl0 _,.nil⟩ ?_ ?_
  · rintro j ys H' hj ⟨hy,g,ht⟩
    have hl:=ht.length
    rw [List.length_replicate] at hl
    refine iteT ⟨_,rfl,(by show 0≤sizeLine;decide),?_⟩
    intro e1 hp_;generalize hX_:upd _ e1 _=H5;have s5:=sT hp_ hX_;have f5:=fT (K:=K) hX_;clear hX_ hp_
    refine ⟨(by show 5≤sizeLine;decide),?_⟩
    intro t1 hp_;generalize hX_:upd _ t1 _=H6;have s6:=sT hp_ hX_;have f6:=fT (K:=K) hX_;clear hX_ hp_
    have s56:=s5.trans s6
    have hy6:=s56 _ _ hy
    refine comp_next hj hy6 (by omega) ⟨upd_same,fun z u e=>?_,?_⟩
    · rw [upd_ne (ne_of_none e hl0)];exact s56 _ _ (g _ _ e)
    · rw [List.replicate_succ']
      exact TmAll.append (TmAll.mono (fun _ _ h=>(s56.seqT h).put hy6) ht) (.cons (.put (f6.put hy6) ((s6.seqT f5).put hy6) .nil (by decide)) .nil)
  rintro ys H1 ⟨hy1,g1,ht1⟩
  have hl1:=ht1.length
  rw [List.length_replicate] at hl1
  refine ⟨l0,ys,rfl,.inl ⟨SqL.of hy1,?_⟩⟩
  intro tp hp_;generalize hX_:upd _ tp _=H2;have s2:=sT hp_ hX_;have f2:=fT (K:=K) hX_;clear hX_ hp_
  have g2:=g1.trans s2
  refine ⟨_,rfl,tp,pi,_,_,rfl,rfl,f2,g2.seqT hpi,line_of (by omega),fun p3 H3 s3 f3=>⟨(by show 5≤sizeLine;decide),?_⟩⟩
  intro p4 hp_;generalize hX_:upd _ p4 _=H4;have s4:=sT hp_ hX_;have f4:=fT (K:=K) hX_;clear hX_ hp_
  have s14:=s2.trans (s3.trans s4)
  exact q _ _ (g1.trans s14) (.put f4 (s4.seqT f3) (TmAll.append (TmAll.mono (fun _ _ h=>s14.seqT h) ht1) (TmAll.mono (fun _ _ h=>(g1.trans s14).seqT h) hiv)) (by rw [List.length_append];omega))
theorem scDeep:FnScope ["_law_name", "_law_add", "_law_count", "_law_inner", "_law_term", "_law_k"] ["_law_name", "_law_add", "_law_count", "_law_inner"] (defScope sDeep):=⟨rfl,rfl,rfl,by decide +kernel,rfl,by decide +kernel,by decide +kernel⟩
theorem ok_deep (F:Fun K "_law_deep" "_law_deep" sDeep f fd) (G:Gm mg):FnOk P w K mg base CX0 1 f fd ["_law_name", "_law_add", "_law_count", "_law_inner"] (spDeep K):=by
  refine F.ok scDeep (fun vs H Q E h=>?_) (fun cdv A outer s H vs Q E hr h=>?_)
  · obtain ⟨n,a,c,pi,ivs,inner,rfl,_⟩:=h
    rfl
  obtain ⟨n,a,c,pi,ivs,inner,rfl,hpi,hiv,hi5,hc,q⟩:=h
  refine ⟨_,(pss_cons (ps_set (i:=4) scDeep.nd rfl (Or.inl rfl) (pe_tup (pa_cons (pe_str) (pa_cons (pv 0) (pa_cons (pe_bl) (pa_cons (pv 1) (pa_cons (pv 3) pa_nil)))))))
    (pss_cons (ps_for PassesOwn.never rfl (pi_range1 rfl G.rng (pa_cons (pv 2) pa_nil)) (pg_name (i:=5) scDeep.nd rfl (Or.inl rfl)) (pss_one (ps_set (i:=4) scDeep.nd rfl (Or.inl rfl) (pe_tup (pa_cons (pe_str) (pa_cons (pv 0) (pa_cons (pe_cmpR op_eq (pe_op op_mod (pv 5) pe_int) pe_int (nomark _)) (pa_cons (pv 1) (pa_cons ((pe_tup (pa_cons (pv 4) pa_nil))) pa_nil)))))))))
    (pss_one (ps_ret (pv 4))))),?_⟩
  refine ⟨_,rfl,_,rfl,_,rfl,(by show 5≤sizeLine;decide),?_⟩
  intro t0 hp_;generalize hX_:upd _ t0 _=H1;have s1:=sT hp_ hX_;have f1:=fT (K:=K) hX_;clear hX_ hp_
  have x1:TmV K H1 (.ref t0) (deepT n a inner 0):=.put f1 (s1.seqT hpi) (TmAll.mono (fun _ _ h=>s1.seqT h) hiv) (by omega)
  refine ⟨_,rfl,(c:Int),rfl,by omega,by omega,?_⟩
  refine for_range (lo:=0) (n:=c) (fun i σ H'=>∃ (tv:V) (c5:Option V),σ=[some (.str n),some (.int a),some (.int (c:Int)),some (.ref pi),some tv,c5]∧Same H H'∧TmV K H' tv (deepT n a inner i))
    ⟨.ref t0,none,rfl,s1,x1⟩ ?_ ?_
  · rintro i σ H2 hi ⟨tv,c5,rfl,g2,x2⟩
    refine ⟨_,rfl,_,rfl,_,_,rfl,rfl,(by show (0:Int) < 2;decide),rfl,_,rfl,_,rfl,(by show 1≤sizeLine;decide),?_⟩
    intro p3 hp_;generalize hX_:upd _ p3 _=H3;have s3:=sT hp_ hX_;have f3:=fT (K:=K) hX_;clear hX_ hp_
    refine ⟨(by show 5≤sizeLine;decide),?_⟩
    intro p4 hp_;generalize hX_:upd _ p4 _=H4;have s4:=sT hp_ hX_;have f4:=fT (K:=K) hX_;clear hX_ hp_
    have s24:=s3.trans s4
    rw [show decide ((fun i j=>V.int (i % j)) (0 + (i:Int)) 2=V.int 0)=(i % 2 == 0) from par i] at f4
    exact ⟨.ref p4,_,rfl,g2.trans s24,.put f4 (s4.seqT f3) (.cons (TmV.mono (fun _ _ h=>s24.seqT h) x2) .nil) (by show 1≤1000;decide)⟩
  · rintro σ H2 ⟨tv,c5,rfl,g2,x2⟩
    exact ⟨_,rfl,q tv H2 g2 x2⟩
theorem scKept:FnScope ["_law_term", "_law_mark"] ["_law_term", "_law_mark"] (defScope sKept):=⟨rfl,rfl,rfl,by decide +kernel,rfl,by decide +kernel,by decide +kernel⟩
theorem ok_kept (F:Fun K "_law_kept" "_law_kept" sKept f fd) (G:Gm mg):FnOk P w K mg base CX0 1 f fd ["_law_term", "_law_mark"] (spKept K):=by
  refine F.ok scKept (fun vs H Q E h=>?_) (fun cdv A outer s H vs Q E hr h=>?_)
  · obtain ⟨v,n,k,a,bs,m,rfl,_⟩:=h
    rfl
  obtain ⟨v,n,k,a,bs,m,rfl,hv,q⟩:=h
  refine ⟨_,(pss_one (ps_ret (pe_op op_add (pe_ix ix_tup (pv 0) pe_int (fun _ _=>rfl)) (pe_op op_mul (pv 1) (pe_callTy call_int1 rfl G.int PyProof.Rows.boot_int (pa_cons (pe_ix ix_tup (pv 0) pe_int (fun _ _=>rfl)) pa_nil)))))),?_⟩
  cases hv with
  | put h h2 h3 h4 =>
    exact ⟨_,rfl,_,_,3,_,rfl,rfl,h,rfl,_,rfl,_,rfl,_,_,2,_,rfl,rfl,h,rfl,.inr ⟨k,rfl,_,_,rfl,rfl,cm k _,_,_,rfl,rfl,q⟩⟩
theorem scPutF:FnScope ["_law_term", "_law_mark", "_law_below", "_law_parts"] ["_law_term", "_law_mark", "_law_below"] (defScope sPutF):=⟨rfl,rfl,rfl,by decide +kernel,rfl,by decide +kernel,by decide +kernel⟩
theorem none_put {k:Nat}:FnOk P w K mg base CX0 k f fd ["_law_term", "_law_mark", "_law_below"] (spPut K 0):=by
  have no:∀ vs H Q E,¬ spPut K 0 vs H Q E:=fun vs H Q E h=>by
    obtain ⟨v,t,m,bv,bt,_,_,h0,_⟩:=h
    rw [lv_bs] at h0;omega
  exact ⟨fun vs H Q E h=>absurd h (no vs H Q E),fun A outer s H args us vs Q E _ _ _ _ h=>absurd h (no vs H Q E)⟩
theorem tr_app {H:Hp}:∀ {vs ws:List V} {ts us:List (Tree Str)},TrAll K H vs ts→TrAll K H ws us→TrAll K H (vs ++ ws) (ts ++ us)
  | _,_,_,_,.nil,h=>h
  | _,_,_,_,.cons a r,h=>.cons a (tr_app r h)
theorem ok_put {n:Nat} (F:Fun K "_law_put" "_law_put" sPutF f fd) (G:Gm mg) (RK:Fn P w K mg base 1 "_law_kept" ["_law_term", "_law_mark"] (spKept K)) (R:Fn P w K mg base (n + 1) "_law_put" ["_law_term", "_law_mark", "_law_below"] (spPut K n)):FnOk P w K mg base CX0 (n + 2) f fd ["_law_term", "_law_mark", "_law_below"] (spPut K (n + 1)):=by
  refine F.ok scPutF (fun vs H Q E h=>?_) (fun cdv A outer s H vs Q E hr h=>?_)
  · obtain ⟨v,t,m,bv,bt,rfl,_⟩:=h
    rfl
  obtain ⟨v,t,m,bv,bt,rfl,hv,hlv,hsz,hb,q⟩:=h
  refine ⟨_,(pss_cons (ps_if (pt_cmpR op_eq (pe_ix ix_tup (pv 0) pe_int (fun _ _=>rfl)) pe_str (nomark _)) (pss_one (ps_ret (pv 2))) pss_nil)
    (pss_cons (ps_setG (i:=3) (CompG.many (xs:=["_law_part"]) (caps:=["_law_below", "_law_mark"]) (cap:=[2,1]) (cs:=[_,_]) rfl rfl (by decide +kernel) (by decide +kernel) (by decide +kernel) (by decide +kernel) (by decide +kernel) (by decide +kernel) rfl rfl rfl) rfl (pi_tup (pe_ix ix_tup (pv 0) pe_int (fun _ _=>rfl))) (pg_c1 (CompG.many (xs:=["_law_part"]) (caps:=["_law_below", "_law_mark"]) (cap:=[2,1]) (cs:=[_,_]) rfl rfl (by decide +kernel) (by decide +kernel) (by decide +kernel) (by decide +kernel) (by decide +kernel) (by decide +kernel) rfl rfl rfl)) (fun _ _ _ _=>pf_nil) (fun _ _ _ _=>pe_fn R hr (pa_cons (pv 0) (pa_cons (pv 2) (pa_cons (pv 1) pa_nil))) (by omega)) scPutF.nd rfl rfl)
    (pss_one (ps_ret (pe_tup (pa_cons (pe_ix ix_tup (pv 0) pe_int (fun _ _=>rfl)) (pa_cons (pe_fn RK hr (pa_cons (pv 0) (pa_cons (pv 1) pa_nil)) (by omega)) (pa_cons (pe_callTy call_tuple_of rfl G.tup PyProof.Rows.boot_tuple (pa_cons (pv 3) pa_nil)) pa_nil)))))))),?_⟩
  rcases tm_open hv with ⟨a,mo,b,rfl,rfl,h1⟩ | ⟨a,b,bs,nm,k,ad,rfl,et,h1,h2,h3,h4⟩
  · refine ⟨_,rfl,a,_,0,_,rfl,rfl,h1,rfl,rfl,_,rfl,iteT ⟨_,rfl,q bv H (Same.refl _) ?_⟩⟩
    simp only [leaf,fillT]
    exact hb (by simp [leaf,cls,clss,lcl])
  have hlen:=h3.length
  have hls:=lv_bs t
  have hss:=sz_bs t
  refine ⟨_,rfl,a,_,0,_,rfl,rfl,h1,rfl,rfl,_,rfl,iteF ?_⟩
  refine ⟨_,rfl,a,_,4,_,rfl,rfl,h1,rfl,b,rfl,⟨_,h2⟩,fun l0 hl0=>?_⟩
  refine c1_tup (K:=K) (xs:=bs) (cs:=[some bv,some (.int m)]) (tt:=fun _ H Q=>Q true H) (fun j ys H'=>H' l0=some (.lst ys)∧Same H H'∧TrAll K H' ys ((t.bs.take j).map (fillT (fun l xs=>opR l m xs) (fun _ _=>bt))))
    ⟨upd_same,same_new hl0 _,.nil⟩ ?_ ?_ ?_
  · rintro j ys H' _ ⟨_,g,_⟩
    exact g.seqT h2
  · rintro j x ys H' hj hx ⟨hy,g,ht⟩
    have hj':j < t.bs.length:=by omega
    obtain ⟨v',hv1,hv2⟩:=h3.get (List.getElem?_eq_getElem hj')
    obtain rfl:v'=x:=Option.some.inj (hv1.symm.trans hx)
    have hmem:t.bs[j] ∈ t.bs:=List.getElem_mem hj'
    have l1:=lv_le hmem
    have l2:=sz_le hmem
    have hl:=ht.length
    rw [List.length_map,List.length_take] at hl
    refine iteT ⟨_,rfl,_,rfl,_,rfl,v',t.bs[j],m,bv,bt,rfl,TmV.mono (fun _ _ h=>g.seqT h) hv2,by omega,by omega,(fun hc=>TrV.mono (fun _ _ h=>g.seqT h) (hb fun z=>?_)),fun v2 H2 s2 x2=>?_⟩
    · obtain ⟨c,hcm⟩:=List.exists_mem_of_ne_nil _ hc
      have hin:c ∈ cls t:=by
        rw [et,cls]
        exact List.mem_append_right _ (cls_le hmem c hcm)
      rw [z] at hin;cases hin
    · have hy2:=s2 _ _ hy
      refine comp_next hj hy2 (by omega) ⟨upd_same,fun z u e=>?_,?_⟩
      · rw [upd_ne (ne_of_none e hl0)];exact s2 _ _ (g _ _ e)
      · rw [List.take_add_one,List.getElem?_eq_getElem hj',Option.toList_some,List.map_append]
        exact tr_app (TrAll.mono (fun _ _ h=>(s2.seqT h).put hy2) ht) (.cons (TrV.mono (fun _ _ h=>h.put hy2) x2) .nil)
  rintro ys H1 ⟨hy1,g1,ht1⟩
  rw [hlen,List.take_length] at ht1
  have hl1:=ht1.length
  rw [List.length_map] at hl1
  have hv':TmV K H1 (.ref a) (putT nm k ad t.bs):=by
    have hh:=TmV.mono (fun _ _ h=>g1.seqT h) hv
    rw [et] at hh
    exact hh
  refine ⟨_,rfl,a,_,1,_,rfl,rfl,g1.seqT h1,rfl,_,rfl,_,rfl,.ref a,nm,k,ad,t.bs,m,rfl,hv',_,rfl,l0,ys,rfl,.inl ⟨SqL.of hy1,?_⟩⟩
  intro tp hp_;generalize hX_:upd _ tp _=H2;have s2:=sT hp_ hX_;have f2:=fT (K:=K) hX_;clear hX_ hp_
  refine ⟨(by show 3≤sizeLine;decide),?_⟩
  intro p3 hp_;generalize hX_:upd _ p3 _=H3;have s3:=sT hp_ hX_;have f3:=fT (K:=K) hX_;clear hX_ hp_
  have s13:=s2.trans s3
  refine q _ _ (g1.trans s13) ?_
  have ef:fillT (fun l xs=>opR l m xs) (fun _ _=>bt) t=.node nm (kpt k ad m) (t.bs.map (fillT (fun l xs=>opR l m xs) (fun _ _=>bt))):=by
    rw [et,fillT,fillTs_map,opR,kpt_if];rfl
  rw [ef]
  exact .mk f3 (s3.seqT f2) (TrAll.mono (fun _ _ h=>s13.seqT h) ht1) (by omega)
theorem all_put (F:Fun K "_law_put" "_law_put" sPutF f fd) (G:Gm mg) (RK:Fn P w K mg base 1 "_law_kept" ["_law_term", "_law_mark"] (spKept K)) (hb:Binds K fd ["_law_term", "_law_mark", "_law_below"] []) (hm:mg "_law_put" = some (.ref f)):∀ n:Nat,FnOk P w K mg base CX0 (n + 1) f fd ["_law_term", "_law_mark", "_law_below"] (spPut K n)
  | 0=>none_put
  | n + 1=>ok_put F G RK ⟨f,fd,all_put F G RK hb hm n,hb,F.kp,hm⟩
end
end K26
namespace K26
open PySem L2 TM TT K9 K11
abbrev nmA (nms:List Str) (i:Nat):Str:=nms.getD i (S [])
theorem at_nm {nms:List Str} {i:Nat} (h:i < nms.length):atI (nms.map V.str) ((i:Nat):Int)=some (.str (nmA nms i)):=atI_nat (by rw [List.getElem?_map,List.getElem?_eq_getElem h];simp [nmA,List.getD,List.getElem?_eq_getElem h])
def bareF (sides:Bool) (n:Str) (a:Int) (last:Nat):Tm:=if sides then wideT n a (last - 1) [] else deepT n a [] (last - 1)
def fullF (sides:Bool) (n:Str) (a:Int) (each:Nat):Tm:=if sides then wideT n a (each - 1) [leaf 0 0] else deepT n a [leaf 0 0] (each - 1)
def spRules (K:PySem.W.Frag):Sp:=fun vs H Q _=>∃ (nl:Addr) (nms:List Str) (a:Int) (sides:Bool) (each last:Nat),vs=[.ref nl,.int a,.bl sides,.int (each:Int),.int (last:Int)]∧SqL K H nl (nms.map V.str)∧nms.length=8∧1≤each∧each≤30∧1≤last∧last≤30 ∧
  ∀ (l:Addr) (vb vf:V) (H':Hp),Same H H'→H' l=some (.lst [vb,vf])→TmV K H' vb (bareF sides (nmA nms 3) a last)→TmV K H' vf (fullF sides (nmA nms 4) a each)→Q (.ref l) H'
section
variable {P:Program} {w:World} {K:PySem.W.Frag} {mg:Str→Option Value} {base:Heap} {f:Addr} {fd:FuncData}
theorem scRulesF:FnScope ["_law_names_here", "_law_add", "_law_sides", "_law_each", "_law_last", "_law_call"] ["_law_names_here", "_law_add", "_law_sides", "_law_each", "_law_last"] (defScope sRulesF):=⟨rfl,rfl,rfl,by decide +kernel,rfl,by decide +kernel,by decide +kernel⟩
theorem ok_rulesF (F:Fun K "_law_rules" "_law_rules" sRulesF f fd) (RW:Fn P w K mg base 1 "_law_wide" ["_law_name", "_law_add", "_law_count", "_law_inner"] (spWide K)) (RD:Fn P w K mg base 1 "_law_deep" ["_law_name", "_law_add", "_law_count", "_law_inner"] (spDeep K)):FnOk P w K mg base CX0 2 f fd ["_law_names_here", "_law_add", "_law_sides", "_law_each", "_law_last"] (spRules K):=by
  refine F.ok scRulesF (fun vs H Q E h=>?_) (fun cdv A outer s H vs Q E hr h=>?_)
  · obtain ⟨nl,nms,a,sides,each,last,rfl,_⟩:=h
    rfl
  obtain ⟨nl,nms,a,sides,each,last,rfl,hN,h8,e1,e2,l1,l2,q⟩:=h
  refine ⟨_,(pss_cons (ps_set (i:=5) scRulesF.nd rfl (Or.inl rfl) (pe_tup (pa_cons ((pe_tup (pa_cons (pe_str) (pa_cons (pe_int) (pa_cons (pe_int) pa_nil))))) pa_nil)))
    (pss_cons (ps_if (pt_val (pv 2)) (pss_one (ps_ret (pe_lst (pa_cons (pe_fn RW hr (pa_cons (pe_ix ix_list (pv 0) pe_int (fun _ _=>rfl)) (pa_cons (pv 1) (pa_cons (pe_op op_sub (pv 4) pe_int) (pa_cons (pe_tup pa_nil) pa_nil))))) (pa_cons (pe_fn RW hr (pa_cons (pe_ix ix_list (pv 0) pe_int (fun _ _=>rfl)) (pa_cons (pv 1) (pa_cons (pe_op op_sub (pv 3) pe_int) (pa_cons (pv 5) pa_nil))))) pa_nil))))) pss_nil)
    (pss_one (ps_ret (pe_lst (pa_cons (pe_fn RD hr (pa_cons (pe_ix ix_list (pv 0) pe_int (fun _ _=>rfl)) (pa_cons (pv 1) (pa_cons (pe_op op_sub (pv 4) pe_int) (pa_cons (pe_tup pa_nil) pa_nil))))) (pa_cons (pe_fn RD hr (pa_cons (pe_ix ix_list (pv 0) pe_int (fun _ _=>rfl)) (pa_cons (pv 1) (pa_cons (pe_op op_sub (pv 3) pe_int) (pa_cons (pv 5) pa_nil))))) pa_nil))))))),?_⟩
  have el:(last:Int) - 1=((last - 1:Nat):Int):=by omega
  have ee:(each:Int) - 1=((each - 1:Nat):Int):=by omega
  refine ⟨(by show 3≤sizeLine;decide),?_⟩
  intro c1 hp_;generalize hX_:upd _ c1 _=H1;have s1:=sT hp_ hX_;have f1:=fT (K:=K) hX_;clear hX_ hp_
  refine ⟨(by show 1≤sizeLine;decide),?_⟩
  intro pc hp_;generalize hX_:upd _ pc _=H2;have s2:=sT hp_ hX_;have f2:=fT (K:=K) hX_;clear hX_ hp_
  have s02:=s1.trans s2
  have hcl:TmAll K H2 [.ref c1] [leaf 0 0]:=.cons (.call (s2.seqT f1)) .nil
  cases sides with
  | true =>
    refine ⟨_,rfl,_,rfl,iteT ⟨_,rfl,nl,_,_,_,rfl,rfl,s02.seq hN,at_nm (i:=3) (by omega),_,rfl,_,rfl,_,_,rfl,rfl,(by show 0≤sizeLine;decide),?_⟩⟩
    intro pe hp_;generalize hX_:upd _ pe _=H3;have s3:=sT hp_ hX_;have f3:=fT (K:=K) hX_;clear hX_ hp_
    refine ⟨nmA nms 3,a,last - 1,pe,[],[],(by rw [← el];rfl),f3,.nil,by decide,by omega,fun vb H4 s4 x4=>?_⟩
    have s24:=s3.trans s4
    refine ⟨_,rfl,nl,_,_,_,rfl,rfl,(s02.trans s24).seq hN,at_nm (i:=4) (by omega),_,rfl,_,rfl,_,_,rfl,rfl,_,rfl,nmA nms 4,a,each - 1,pc,[.ref c1],[leaf 0 0],(by rw [← ee];rfl),s24.seqT f2,TmAll.mono (fun _ _ h=>s24.seqT h) hcl,(by show 1≤5;decide),by omega,fun vf H5 s5 x5=>⟨(by show 2≤sizeLine;decide),?_⟩⟩
    intro l0 hp_;generalize hX_:upd _ l0 _=H6;have s6:=sT hp_ hX_;have f6:=fL hX_;clear hX_ hp_
    exact q l0 vb vf H6 (s02.trans (s24.trans (s5.trans s6))) f6 (TmV.mono (fun _ _ h=>(s5.trans s6).seqT h) x4) (TmV.mono (fun _ _ h=>s6.seqT h) x5)
  | false =>
    refine ⟨_,rfl,_,rfl,iteF ⟨_,rfl,nl,_,_,_,rfl,rfl,s02.seq hN,at_nm (i:=3) (by omega),_,rfl,_,rfl,_,_,rfl,rfl,(by show 0≤sizeLine;decide),?_⟩⟩
    intro pe hp_;generalize hX_:upd _ pe _=H3;have s3:=sT hp_ hX_;have f3:=fT (K:=K) hX_;clear hX_ hp_
    refine ⟨nmA nms 3,a,last - 1,pe,[],[],(by rw [← el];rfl),f3,.nil,by decide,by omega,fun vb H4 s4 x4=>?_⟩
    have s24:=s3.trans s4
    refine ⟨_,rfl,nl,_,_,_,rfl,rfl,(s02.trans s24).seq hN,at_nm (i:=4) (by omega),_,rfl,_,rfl,_,_,rfl,rfl,_,rfl,nmA nms 4,a,each - 1,pc,[.ref c1],[leaf 0 0],(by rw [← ee];rfl),s24.seqT f2,TmAll.mono (fun _ _ h=>s24.seqT h) hcl,(by show 1≤5;decide),by omega,fun vf H5 s5 x5=>⟨(by show 2≤sizeLine;decide),?_⟩⟩
    intro l0 hp_;generalize hX_:upd _ l0 _=H6;have s6:=sT hp_ hX_;have f6:=fL hX_;clear hX_ hp_
    exact q l0 vb vf H6 (s02.trans (s24.trans (s5.trans s6))) f6 (TmV.mono (fun _ _ h=>(s5.trans s6).seqT h) x4) (TmV.mono (fun _ _ h=>s6.seqT h) x5)
end
end K26
namespace K26
open PySem L2 TM TT K9 K11
def spAns (K:PySem.W.Frag) (T1 T2 T3:Addr):Sp:=fun vs H Q _=>∃ (tu wd lm:Addr) (sv:V) (mo:List MdT) (T:Tu) (rv:V) (t:Tree Str) (md:MdT) (ask:Int),vs=[.ref tu,rv,.int ask]∧Ask K H tu wd lm sv mo T rv t∧lv T.start≤8∧sz T.start≤100∧(reprText T.k0).length≤1000∧mo[0]?=some md∧(reprText md.2.1).length≤1000∧isT (rowK T.ks) t T.k0=true∧isT (rowK T.ks) t md.2.1=true∧T.start=leaf 0 0∧Tb3 T1 T2 T3 H ∧
  (Fits T (leaf 0 0) t→∀ (v':V) (H':Hp),SX3 T1 T2 T3 H H'→Tb3 T1 T2 T3 H'→TrV K H' v' (madeT T (leaf 0 0) t)→Q v' H') ∧
  (¬ Fits T (leaf 0 0) t→∀ (l:Addr) (H':Hp),SX3 T1 T2 T3 H H'→Tb3 T1 T2 T3 H'→H' l=some (.lst [.bl true])→Q (.ref l) H')
section
variable {P:Program} {w:World} {K:PySem.W.Frag} {mg:Str→Option Value} {base:Heap} {f:Addr} {fd:FuncData}
theorem scAns:FnScope ["_law_turning", "_law_tree", "_law_ask", "e"] ["_law_turning", "_law_tree", "_law_ask"] (defScope sAnswer):=⟨rfl,rfl,rfl,by decide +kernel,rfl,by decide +kernel,by decide +kernel⟩
theorem ok_ans {CN CG CT T1 T2 T3:Addr} (F:Fun K "_law_answer" "_law_answer" sAnswer f fd) (G:Gm mg) (hve:mg "ValueError" = none) (hN:mg "NoTree" = some (.ref CN)) (hG:mg "TooGreat" = some (.ref CG)) (hTE:mg "TurnError" = some (.ref CT)) (hq:PySem.W.ktsIn K CG "BaseException" = true) (xk:XcK K CG) (i1:PySem.W.kitOne K (.ref CG) (.ref CT)=some true) (i2:PySem.W.kitOne K (.ref CG) (.type "ValueError")=some true) (i3:PySem.W.kitOne K (.ref CG) (.ref CN)=some false)
    (RT':FnX P w K mg base 57 "turned" ["turning", "tree"] (spTd K CN CG T1 T2 T3)) (RI:FnX P w K mg base 57 "turned_in" ["turning", "mode", "tree"] (spTdIn K CN CG T1 T2 T3)):FnOk P w K mg base CX0 58 f fd ["_law_turning", "_law_tree", "_law_ask"] (spAns K T1 T2 T3):=by
  refine F.ok scAns (fun vs H Q E h=>?_) (fun cdv A outer s H vs Q E hr h=>?_)
  · obtain ⟨tu,wd,lm,sv,mo,T,rv,t,md,ask,rfl,_⟩:=h
    rfl
  obtain ⟨tu,wd,lm,sv,mo,T,rv,t,md,ask,rfl,hA,hls,hss,hrp,hmd,hrp2,n1,n2,hst,htb,q1,q2⟩:=h
  refine ⟨_,(pss_one (ps_tryAs (i:=3) hG hq rfl scAns.nd rfl rfl
      (fun pins EE=>(pss_cons (ps_if (pt_cmpR op_eq (pv 2) pe_int (nomark _)) (pss_one (ps_ret (pe_fnX (EE:=EE) RT' hr passT (pa_cons (pv 0) (pa_cons (pv 1) pa_nil))))) pss_nil)
    (pss_one (ps_ret (pe_fnX (EE:=EE) RI hr passT (pa_cons (pv 0) (pa_cons (pe_int) (pa_cons (pv 1) pa_nil))))))))
      (fun a=>pss_one (ps_ret (pe_lst (pa_cons (pe_and (pe_callB (r:=rIsX K) call_isinstX rfl G.isi PyProof.Rows.boot_isinstance (pa_cons (pv 3) (pa_cons (pe_glob (v:=.ref CT) rfl hTE rfl) pa_nil))) (pe_and (pe_callB (r:=rIsX K) call_isinstX rfl G.isi PyProof.Rows.boot_isinstance (pa_cons (pv 3) (pa_cons (pe_bltn (v:=.ty "ValueError") rfl hve (by decide +kernel) rfl) pa_nil))) (pe_one (pe_not (pe_callB (r:=rNotX K) call_isinstN rfl G.isi PyProof.Rows.boot_isinstance (pa_cons (pv 3) (pa_cons (pe_glob (v:=.ref CN) rfl hN rfl) pa_nil))))))) pa_nil)))))),?_⟩
  refine ⟨fun σ' cls _ H'=>cls=.ref CG∧¬ Fits T (leaf 0 0) t∧σ'=[some (.ref tu),some rv,some (.int ask),none]∧SX3 T1 T2 T3 H H'∧Tb3 T1 T2 T3 H',?_,?_⟩
  · refine ⟨_,rfl,rfl,_,rfl,ite2 (fun _=>?_) (fun _=>?_)⟩
    · refine ⟨_,rfl,_,rfl,tu,wd,lm,sv,mo,T,rv,t,rfl,hA,hls,hss,hrp,htb,fun z=>absurd (n1.symm.trans z) (by decide),fun _ hf v' H2 x2 tb2 tv=>?_,fun _ nf H2 x2 tb2=>?_⟩
      · rw [hst] at hf tv
        exact q1 hf v' H2 x2 tb2 tv
      · rw [hst] at nf
        exact ⟨rfl,nf,rfl,x2,tb2⟩
    · exact ⟨_,rfl,_,rfl,tu,wd,lm,sv,mo,T,rv,t,0,md,rfl,hA,hmd,hrp2,htb,fun z=>absurd (n2.symm.trans z) (by decide),fun _ hf v' H2 x2 tb2 tv=>q1 hf v' H2 x2 tb2 tv,fun _ nf H2 x2 tb2=>⟨rfl,nf,rfl,x2,tb2⟩⟩
  · rintro σ' cls H' ⟨rfl,nf,rfl,x2,tb2⟩
    refine ⟨rfl,fun a ha=>?_⟩
    have ga:=same_new ha (ExcO a (.ref CG))
    refine ⟨_,rfl,a,.ref CG,.ref CT,.ref CT,rfl,upd_same,rfl,i1,_,rfl,iteT ⟨_,rfl,a,.ref CG,.ty "ValueError", .type "ValueError", rfl,upd_same,rfl,i2,_,rfl,iteT ⟨_,rfl,a,CG,.ref CN,.ref CN,rfl,upd_same,rfl,xk,i3,_,rfl,(by show 1≤sizeLine;decide),fun l hl=>?_⟩⟩⟩
    have gl:=ga.trans (same_new hl (.lst [.bl true]))
    exact q2 nf l _ (x2.trans (SX3.of gl)) (tb2.same gl) upd_same
end
end K26
namespace K26
open PySem L2 TM TT K9 K11
def NmT (t:Tree Str):Prop:=(td t).canLay0=true
def spWalk (K:PySem.W.Frag):Sp:=fun vs H Q _=>∃ (v v':V) (t:Tree Str),vs=[v,v']∧TrV K H v t∧TrV K H v' t∧NmT t∧sz t≤1000∧∀ H':Hp,Same H H'→Q (.bl true) H'
inductive PrA (K:PySem.W.Frag) (H:Hp):List Addr→List (Tree Str)→Prop where
  | nil:PrA K H [] []
  | cons {p:Addr} {u u':V} {t:Tree Str} {ps:List Addr} {ts:List (Tree Str)}:SqT K H p [u,u']→TrV K H u t→TrV K H u' t→NmT t→PrA K H ps ts→PrA K H (p :: ps) (t :: ts)
theorem PrA.mono {K:PySem.W.Frag} {H H':Hp} (k:∀ a xs,SqT K H a xs→SqT K H' a xs):∀ {ps:List Addr} {ts:List (Tree Str)},PrA K H ps ts→PrA K H' ps ts
  | _,_,.nil=>.nil
  | _,_,.cons h a b c r=>.cons (k _ _ h) (a.mono k) (b.mono k) c (PrA.mono k r)
theorem PrA.app {K:PySem.W.Frag} {H:Hp}:∀ {ps qs:List Addr} {ts us:List (Tree Str)},PrA K H ps ts→PrA K H qs us→PrA K H (ps ++ qs) (ts ++ us)
  | _,_,_,_,.nil,h=>h
  | _,_,_,_,.cons h a b c r,h2=>.cons h a b c (PrA.app r h2)
theorem PrA.last {K:PySem.W.Frag} {H:Hp} {ps:List Addr} {ts:List (Tree Str)} (h:PrA K H ps ts):ps≠[]→∃ (qs:List Addr) (us:List (Tree Str)) (p:Addr) (u u':V) (t:Tree Str),ps=qs ++ [p]∧ts=us ++ [t]∧PrA K H qs us∧SqT K H p [u,u']∧TrV K H u t∧TrV K H u' t∧NmT t:=by
  induction h with
  | nil=>exact fun h=>absurd rfl h
  | @cons p0 u0 u0' t0 ps0 ts0 h a b c r ih =>
    intro _
    by_cases e:ps0=[]
    · cases r with
      | nil=>exact ⟨[],[],_,_,_,_,rfl,rfl,.nil,h,a,b,c⟩
      | cons=>cases e
    · obtain ⟨qs,us,p,u,u',t,e1,e2,r1,r2,r3,r4,r5⟩:=ih e
      exact ⟨_ :: qs,_ :: us,p,u,u',t,by rw [e1];rfl,by rw [e2];rfl,.cons h a b c r1,r2,r3,r4,r5⟩
theorem PrA.len {K:PySem.W.Frag} {H:Hp}:∀ {ps:List Addr} {ts:List (Tree Str)},PrA K H ps ts→ps.length≤szs ts
  | _,_,.nil=>Nat.le_refl _
  | _,_,.cons (t:=t) h a b c r=>by
    have:=PrA.len r
    cases t with
    | node n m bs=>simp only [szs,sz,List.length_cons];omega
def pds:List (Tree Str)→List PyData
  | []=>[]
  | t :: r=>.tuple [td t,td t] :: pds r
theorem PrA.rd {K:PySem.W.Frag} {H:Hp}:∀ {ps:List Addr} {ts:List (Tree Str)},PrA K H ps ts→RdAll K H (ps.map V.ref) (pds ts)
  | _,_,.nil=>.nil
  | _,_,.cons h a b c r=>.cons (.tup h (.cons (K9.TrV.rd a) (.cons (K9.TrV.rd b) .nil))) (PrA.rd r)
theorem PrA.lay {K:PySem.W.Frag} {H:Hp}:∀ {ps:List Addr} {ts:List (Tree Str)},PrA K H ps ts→PyData.canLayAll0 (pds ts)=true
  | _,_,.nil=>rfl
  | _,_,.cons h a b c r=>by
    have c':(td _).canLay0=true:=c
    simp only [pds,PyData.canLayAll0,PyData.canLay0,c',PrA.lay r,Bool.and_self]
theorem PrA.emp {K:PySem.W.Frag} {H:Hp}:∀ {ps:List Addr} {ts:List (Tree Str)},PrA K H ps ts→(pds ts).isEmpty=ps.isEmpty
  | _,_,.nil=>rfl
  | _,_,.cons h a b c r=>rfl
theorem Prs.tl {H:Hp} {x y:V} {xs ys:List V} {t:Addr} {ts:List Addr} (h:Prs H (x :: xs) (y :: ys) (t :: ts)):Prs H xs ys ts:=fun j t' e=>h (j + 1) t' e
theorem prs_pra {K:PySem.W.Frag} {H:Hp} (cs:List (Tree Str)):∀ (us us':List V) (qs:List Addr),TrAll K H us cs→TrAll K H us' cs→Prs H us us' qs→qs.length=us.length→(∀ c ∈ cs,NmT c)→PrA K H qs cs:=by
  induction cs with
  | nil =>
    intro us us' qs h1 h2 hp hl hn
    cases h1
    cases qs with
    | nil=>exact .nil
    | cons=>simp at hl
  | cons t r ih =>
    intro us us' qs h1 h2 hp hl hn
    cases h1 with
    | cons a ra =>
    cases h2 with
    | cons b rb =>
    cases qs with
    | nil=>simp at hl
    | cons q qs =>
      obtain ⟨u,v,e1,e2,e3⟩:=hp 0 q rfl
      obtain rfl:=Option.some.inj e1
      obtain rfl:=Option.some.inj e2
      exact .cons (SqT.of e3) a b (hn _ List.mem_cons_self) (ih _ _ qs ra rb (Prs.tl hp) (by simpa using hl) fun c hc=>hn c (List.mem_cons_of_mem _ hc))
theorem szs_app (a b:List (Tree Str)):szs (a ++ b)=szs a + szs b:=by
  induction a with
  | nil=>simp [szs]
  | cons t r ih=>simp only [List.cons_append,szs,ih];omega
theorem eqv_lnil (ds:List PyData):PyData.eqv (.list ds) (.list [])=ds.isEmpty:=by
  cases ds with
  | nil=>simp [PyData.eqv,PyData.eqvAll]
  | cons d r=>simp [PyData.eqv,PyData.eqvAll]
section
variable {P:Program} {w:World} {K:PySem.W.Frag} {mg:Str→Option Value} {base:Heap} {f:Addr} {fd:FuncData}
theorem scWalk:FnScope ["_law_found", "_law_due", "_law_todo", "_law_one", "_law_other"] ["_law_found", "_law_due"] (defScope sWalk):=⟨rfl,rfl,rfl,by decide +kernel,rfl,by decide +kernel,by decide +kernel⟩
theorem ok_walk (F:Fun K "_law_walk" "_law_walk" sWalk f fd) (G:Gm mg) (RH:Fn P w K mg base 1 "_law_whole" ["_law_found"] spWhole):FnOk P w K mg base CX0 2 f fd ["_law_found", "_law_due"] (spWalk K):=by
  refine F.ok scWalk (fun vs H Q E h=>?_) (fun cdv A outer s H vs Q E hr h=>?_)
  · obtain ⟨v,v',t,rfl,_⟩:=h
    rfl
  obtain ⟨v,v',t,rfl,h1,h2,hnm,hsz,q⟩:=h
  have room:∀ m:Nat,m≤64→(A.deeper (PyProof.Rows.envOfC "_law_walk" (defScope sWalk) s.heap.objs.size f cdv)).units + m < cLine:=fun m hm=>by have:=hr.units;omega
  refine ⟨_,(pss_cons (ps_set (i:=2) scWalk.nd rfl (Or.inl rfl) (pe_lst (pa_cons ((pe_tup (pa_cons (pv 0) (pa_cons (pv 1) pa_nil)))) pa_nil)))
    (pss_cons (ps_while PassesOwn.never (pt_cmpR op_neD (pv 2) (pe_lst pa_nil) (nomark _)) (pss_cons (ps_asg (pe_bm0 PySem.F.plainAttrs_list PySem.F.slot_list_pop PySem.F.type_list_pop mt_pop (pv 2)) (pg_tup rfl (pgs_cons (pg_name (i:=3) scWalk.nd rfl (Or.inl rfl)) (pgs_cons (pg_name (i:=4) scWalk.nd rfl (Or.inl rfl)) pgs_nil))))
    (pss_cons (ps_if (PW.pt (pw_or (pt_not (pt_val (pe_callB call_isinstT rfl G.isi PyProof.Rows.boot_isinstance (pa_cons (pv 3) (pa_cons (pe_bltn (v:=.ty "tuple") rfl G.tup PyProof.Rows.boot_tuple rfl) pa_nil))))) (pw_or (pt_cmpR op_ne (pe_callB call_len_seq rfl G.len PySem.boot_len (pa_cons (pv 3) pa_nil)) pe_int (nomark _)) (pw_or1 (pt_not (pt_val (pe_callB call_isinst rfl G.isi PyProof.Rows.boot_isinstance (pa_cons (pe_ix ix_tup (pv 3) pe_int (fun _ _=>rfl)) (pa_cons (pe_bltn (v:=.ty "str") rfl G.str PyProof.Rows.boot_str rfl) pa_nil))))))))) (pss_one (ps_ret pe_bl)) pss_nil)
    (pss_cons (ps_if (PW.pt (pw_or (pt_not (pt_val (pe_fn RH hr (pa_cons (pe_ix ix_tup (pv 3) pe_int (fun _ _=>rfl)) pa_nil)))) (pw_or (pt_cmpR op_neD (pe_slice sl_tupG (pv 3) po_none (po_some pe_int)) (pe_slice sl_tupG (pv 4) po_none (po_some pe_int)) (nomark _)) (pw_or1 (pt_not (pt_val (pe_callB call_isinstT rfl G.isi PyProof.Rows.boot_isinstance (pa_cons (pe_ix ix_tup (pv 3) pe_int (fun _ _=>rfl)) (pa_cons (pe_bltn (v:=.ty "tuple") rfl G.tup PyProof.Rows.boot_tuple rfl) pa_nil))))))))) (pss_one (ps_ret pe_bl)) pss_nil)
    (pss_cons (ps_if (pt_cmpR op_ne (pe_callB call_len_seq rfl G.len PySem.boot_len (pa_cons (pe_ix ix_tup (pv 3) pe_int (fun _ _=>rfl)) pa_nil)) (pe_callB call_len_seq rfl G.len PySem.boot_len (pa_cons (pe_ix ix_tup (pv 4) pe_int (fun _ _=>rfl)) pa_nil)) (nomark _)) (pss_one (ps_ret pe_bl)) pss_nil)
    (pss_one (ps_expr (pe_bm PySem.F.plainAttrs_list PySem.F.slot_list_extend PySem.F.type_list_extend mt_extend (pv 2) (pa_cons (pe_listZip rfl (pa_cons (pe_ix ix_tup (pv 3) pe_int (fun _ _=>rfl)) (pa_cons (pe_ix ix_tup (pv 4) pe_int (fun _ _=>rfl)) pa_nil)) G.lst G.zip) pa_nil)))))))))
    (pss_one (ps_ret pe_bl)))),?_⟩
  refine ⟨_,rfl,_,rfl,(by show 2≤sizeLine;decide),fun p0 hp0=>⟨(by show 1≤sizeLine;decide),fun l hl0=>?_⟩⟩
  have g1:=same_new hp0 (.tup [v,v'])
  have hln:H l=none:=g1.free hl0
  have g2:=same_new hl0 (.lst [.ref p0])
  refine ⟨fun m σ H'=>∃ (c3 c4:Option V) (ps:List Addr) (ts:List (Tree Str)),σ=[some v,some v',some (.ref l),c3,c4]∧SameX l H H'∧H' l=some (.lst (ps.map V.ref))∧PrA K H' ps ts∧szs ts=m∧m≤1000,⟨sz t,none,none,[p0],[t],rfl,SameX.of (g1.trans g2),upd_same,.cons (g2.seqT (SqT.of upd_same)) (h1.mono fun _ _=>(g1.trans g2).seqT) (h2.mono fun _ _=>(g1.trans g2).seqT) hnm .nil,by simp [szs],hsz⟩,?_⟩
  rintro m σ H3 ⟨c3,c4,ps,ts,rfl,x3,hl3,hpa,hm,hm1⟩
  refine ⟨_,rfl,(by show 0≤sizeLine;decide),fun le hle=>?_⟩
  have ke:=same_new hle (.lst [])
  have hpe:=hpa.mono fun _ _=>ke.seqT
  refine ⟨.list (pds ts),.list [],.lst (SqL.of (ke _ _ hl3)) hpe.rd,.lst (SqL.of upd_same) .nil,by simp only [PyData.canLay0];exact hpa.lay,by simp [PyData.canLay0,PyData.canLayAll0],room _ (Nat.le_trans (Nat.min_le_right _ _) (by simp [PyData.depth,PyData.depthAll])),_,rfl,?_⟩
  rw [if_pos rfl,eqv_lnil,hpa.emp]
  have x4:=x3.trans (SameX.of ke)
  have hl4:=ke _ _ hl3
  generalize upd H3 le (.lst [])=H4 at x4 hl4 hpe
  by_cases hps:ps=[]
  · rw [hps]
    exact iteF (q _ (x4.same hln))
  have hpt:(!ps.isEmpty)=true:=by
    cases ps with
    | nil=>exact absurd rfl hps
    | cons x r=>rfl
  refine ite2 (fun _=>?_) (fun z=>absurd hpt z)
  obtain ⟨qs,us,p,u,u',t',rfl,rfl,r1,r2,r3,r4,r5⟩:=hpe.last hps
  refine ⟨fun σ H'=>∃ m',m' < m∧∃ (c3 c4:Option V) (ps:List Addr) (ts:List (Tree Str)),σ=[some v,some v',some (.ref l),c3,c4]∧SameX l H H'∧H' l=some (.lst (ps.map V.ref))∧PrA K H' ps ts∧szs ts=m'∧m'≤1000,fun σ' H' h=>h,?_⟩
  have hpop:((qs ++ [p]).map V.ref)[((qs ++ [p]).map V.ref).length - 1]?=some (.ref p):=by simp
  refine ⟨_,rfl,.inl ⟨rfl,_,SqL.of hl4⟩,l,_,_,rfl,rfl,hl4,hpop,?_⟩
  have hdl:((qs ++ [p]).map V.ref).dropLast=qs.map V.ref:=by simp
  rw [hdl]
  have k5:∀ a xs,SqT K H4 a xs→SqT K (upd H4 l (.lst (qs.map V.ref))) a xs:=fun a xs h=>h.put hl4
  have x5:SameX l H (upd H4 l (.lst (qs.map V.ref))):=x4.trans SameX.upd
  have hl5:upd H4 l (.lst (qs.map V.ref)) l=some (.lst (qs.map V.ref)):=upd_same
  have r1:=r1.mono k5
  have r2:=k5 _ _ r2
  have r3:=r3.mono k5
  have r4:=r4.mono k5
  generalize upd H4 l (.lst (qs.map V.ref))=H5 at x5 hl5 r1 r2 r3 r4
  cases r3 with
  | @mk a b vs cs name mark a1 a2 a3 a4 =>
  cases r4 with
  | @mk a' b' vs' _ _ _ b1 b2 b3 b4 =>
  have l1:=a3.length
  have l2:=b3.length
  have hso:PyData.strOk name=true:=by
    have h:=r5
    unfold NmT at h
    simp only [td,PyData.canLay0,PyData.canLayAll0,Bool.and_eq_true] at h
    exact h.1
  have hcs:∀ c ∈ cs,NmT c:=LayT.bs (t:=.node name mark cs) r5
  have hsm:szs us + (1 + szs cs)=m:=by
    rw [← hm,szs_app];simp [szs,sz]
  have hq:=r1.len
  refine ⟨p,_,rfl,r2,rfl,_,_,rfl,_,_,rfl,rfl,?_⟩
  refine ⟨_,rfl,a,_, "tuple", true,rfl,a1,rfl,_,rfl,iteF ⟨_,rfl,a,_,rfl,.inr a1,rfl,_,rfl,iteNS rfl ⟨_,rfl,a,_,0,_,rfl,rfl,a1,rfl,_, "str", _,true,rfl,.str _,rfl,_,rfl,iteF ?_⟩⟩⟩
  refine ⟨_,rfl,a,_,1,_,rfl,rfl,a1,rfl,mark,rfl,_,rfl,iteF ⟨_,rfl,_,rfl,a,_,rfl,a1,fun s1 H6 g6 hs1=>⟨_,rfl,_,rfl,a',_,rfl,g6.seqT b1,fun s2 H7 g7 hs2=>?_⟩⟩⟩
  have lay2:(PyData.tuple [.str name,.int mark]).canLay0=true:=by simp [PyData.canLay0,PyData.canLayAll0,hso]
  have g57:=g6.trans g7
  refine ⟨.tuple [.str name,.int mark],.tuple [.str name,.int mark],.tup (g7.seqT hs1) (.cons (.str _) (.cons (.int _) .nil)),.tup hs2 (.cons (.str _) (.cons (.int _) .nil)),lay2,lay2,room _ (Nat.le_trans (Nat.min_le_left _ _) (by simp [PyData.depth,PyData.depthAll])),?_⟩
  rw [if_pos rfl,eqv_self _ lay2]
  have x7:=x5.trans (SameX.of g57)
  have hl7:=g57 _ _ hl5
  have a1:=g57.seqT a1
  have a2:=g57.seqT a2
  have a3:=a3.mono fun _ _=>g57.seqT
  have b1:=g57.seqT b1
  have b2:=g57.seqT b2
  have b3:=b3.mono fun _ _=>g57.seqT
  have r1:=r1.mono fun _ _=>g57.seqT
  refine ⟨_,rfl,iteF ⟨_,rfl,a,_,2,_,rfl,rfl,a1,rfl,b,_, "tuple", true,rfl,a2,rfl,_,rfl,iteF ?_⟩⟩
  refine ⟨_,rfl,a,_,2,_,rfl,rfl,a1,rfl,b,_,rfl,.inr a2,_,rfl,a',_,2,_,rfl,rfl,b1,rfl,b',_,rfl,.inr b2,rfl,_,rfl,iteNS (by rw [l1,l2]) ?_⟩
  refine ⟨_,rfl,.inl ⟨rfl,_,SqL.of hl7⟩,_,rfl,a,_,2,_,rfl,rfl,a1,rfl,_,rfl,a',_,2,_,rfl,rfl,b1,rfl,b,b',vs,vs',rfl,a2,b2,by omega,a4,fun d zs H8 g8 hd hd8 hz hpr=>?_⟩
  have hl8:=g8 _ _ hl7
  refine ⟨l,d,_,_,rfl,rfl,hl8,hd8,line_of (by rw [List.length_map,List.length_map];omega),?_⟩
  have k9:∀ a xs,SqT K H7 a xs→SqT K (upd H8 l (.lst (qs.map V.ref ++ zs.map V.ref))) a xs:=fun a xs h=>(g8.seqT h).put hl8
  refine ⟨szs us + szs cs,by omega,_,_,qs ++ zs,us ++ cs,rfl,(x7.trans (SameX.of g8)).trans SameX.upd,?_,PrA.app (r1.mono k9) ((prs_pra cs vs vs' zs (a3.mono fun _ _=>g8.seqT) (b3.mono fun _ _=>g8.seqT) hpr hz hcs).mono fun _ _ h=>h.put hl8),szs_app _ _,by omega⟩
  rw [upd_same,List.map_append]
end
end K26
namespace L2
open PySem PySem.Spec PyProof.Rows
section
variable {X:Cx} {pins:List (Addr × Obj)} {σ:St} {pos:Pos}
theorem isList_sb {h h':Heap} {it l:Addr} {items:Array Value} (hne:l≠it) (sb:Heap.SameBut it h h') (p:h.IsList l items):h'.IsList l items:=by
  obtain ⟨o,e,r⟩:=p
  exact ⟨o,(sb.2 l hne).trans e,r⟩
theorem draw_listU {prog:Program} {w:World} {A:Around} {E:Value→Shared→Prop} {it l:Addr} {items:Array Value} (hne:l≠it):∀ (n i:Nat) (s:Shared) (Q:List Value→Shared→Prop),s.heap.IsListIter it l i→s.heap.IsList l items→i + n≤items.size →
    (∀ h':Heap,h'.IsListIter it l (i + n)→Heap.SameBut it s.heap h'→Q ((items.toList.drop i).take n) { s with heap:=h' })→wpAny (model prog w) A (draw (.ref it) n) Q E s
  | 0,i,s,Q,h1,h2,h3,k=>by
    unfold draw
    exact wpAny_pure (k s.heap h1 ⟨rfl,fun b _=>rfl⟩)
  | n + 1,i,s,Q,h1,h2,h3,k=>by
    unfold draw
    have hi:i < items.size:=by omega
    refine wpAny_bind (wpAny_pyNext_list_item h1 h2 (x:=items[i]) (by simp [hi]) fun h' h1' sb=>?_)
    refine wpAny_bind (wpAny_holding (draw_listU hne n (i + 1) { s with heap:=h' } _ h1' (isList_sb hne sb h2) (by omega) fun h2' h3' sb'=>wpAny_pure ?_))
    have e:items[i] :: (items.toList.drop (i + 1)).take n=(items.toList.drop i).take (n + 1):=by
      rw [List.drop_eq_getElem_cons (show i < items.toList.length by simpa using hi),List.take_succ_cons]
      simp
    show Q (items[i] :: (items.toList.drop (i + 1)).take n) _
    rw [e]
    exact k h2' (by rw [show i + (n + 1)=i + 1 + n by omega];exact h3') ⟨sb'.1.trans sb.1,fun b hb=>(sb'.2 b hb).trans (sb.2 b hb)⟩
theorem unpack_listU {prog:Program} {w:World} {A:Around} {E:Value→Shared→Prop} {s:Shared} {l:Addr} {items:Array Value} {Q:List Value→Shared→Prop} (hh:A.handled=none) (hl:s.heap.IsList l items) (k:∀ h':Heap,Heap.ExtBut s.heap.objs.size s.heap h'→Q items.toList { s with heap:=h' }) :
    wpAny (model prog w) A (unpackItems (.ref l) items.size none) Q E s:=by
  have tl:s.TypeIs (.ref l) "list" := by
    obtain ⟨o,e,c,_⟩:=hl
    exact ⟨o,e,c⟩
  have ll:l < s.heap.objs.size:=by
    obtain ⟨o,e,_⟩:=hl
    exact Heap.lt_size e
  unfold unpackItems notIterableAtAll
  refine wpAny_bind (wpAny_bind (wpAny_specialOf tl F.slot_list_iter.lookup ?_))
  show wpAny _ _ (pure false) _ _ _
  refine wpAny_pure ?_
  show wpAny _ _ (holding [Value.ref l] (pyIter (Value.ref l)) >>= _) _ _ _
  refine wpAny_bind (wpAny_holding (wpAny_pyIter_list hl ?_))
  have hne:l≠s.heap.objs.size:=Nat.ne_of_lt ll
  have hn:=Heap.get?_push_size s.heap (o:={ cls:=Value.type "list_iterator", data:=Data.fields #[Value.ref l,Value.int 0 0] }) rfl
  have keep:∀ b o,s.heap.get? b=some o→(s.heap.push { cls:=Value.type "list_iterator", data:=Data.fields #[Value.ref l,Value.int 0 0] }).get? b=some o:=fun b o e=>Heap.get?_push_of_some _ e
  generalize s.heap.push { cls:=Value.type "list_iterator", data:=Data.fields #[Value.ref l,Value.int 0 0] }=h1 at hn keep
  have hl1:h1.IsList l items:=by
    obtain ⟨o,e,r⟩:=hl
    exact ⟨o,keep _ _ e,r⟩
  refine wpAny_bind (wpAny_holding (draw_listU hne items.size 0 { s with heap:=h1 } _ ⟨_,hn,rfl,rfl⟩ hl1 (by omega) fun h2 it2 sb2=>?_))
  rw [List.drop_zero,show items.toList.take items.size=items.toList from List.take_of_length_le (by simp)]
  dsimp only
  rw [if_neg (by simp)]
  refine wpAny_bind (wpAny_holding (wpAny_pyNext_list_end hh (by rw [Nat.zero_add] at it2;exact it2) (isList_sb hne sb2 hl1) (by simp) fun h3 eb3=>?_))
  rw [if_neg (by simp)]
  refine wpAny_pure (k h3 fun b o hb e=>eb3 b o hb ?_)
  exact (sb2.2 b hb).trans (keep b o e)
def gLst (K:PySem.W.Frag) (n:Nat) (t:TGs):TG:=fun v σ H Q=>∃ a xs,v=.ref a∧SqL K H a xs∧xs.length=n∧t xs σ H Q
theorem pg_lst {es:List Expr} {k:Nat} {t:TGs} {n:Nat} (hc:X.calm=true) (h:PGs X es t)
    (hn:(assignEach es X.env).length=n:=by rfl) (hst:(assignEach es X.env).findIdx? (·.1)=none:=by rfl):PG X (.Tuple es k pos) (gLst X.K n t):=by
  intro pins s σ H v u Q I r hw
  obtain ⟨a,xs,e1,hq,hl,hw⟩:=hw
  subst e1
  cases r
  obtain ⟨its,rv,ht,hz⟩:=I.list hq
  rw [assign_Tuple]
  refine wpAny_bind (wpAny_standAt ?_)
  unfold unpack
  rw [hst,show (assignEach es X.env).length=its.toArray.size by simp [hn,← hl,rv.length]]
  refine wpAny_bind (wpAny_holding (unpack_listU (I.ok.hd hc) ht.isList fun h' hx=>?_))
  have I1:Inv X pins σ H { s with heap:=h' }:=I.kept (t':=s.toks) fun b o e=>hx b o (Nat.ne_of_lt (Heap.lt_size e)) e
  exact h pins _ σ H xs _ Q I1 (by simpa using rv) hw
end
end L2
namespace K26
open PySem L2 TM TT K9 K11
section
variable {n:Str} {a:Int} {inner:List Tm}
theorem clss_app:∀ xs ys:List Tm,clss (xs ++ ys)=clss xs ++ clss ys
  | [],ys=>by simp [clss]
  | x :: r,ys=>by simp only [List.cons_append,clss,clss_app r ys,List.append_assoc]
theorem clss_rep:∀ c:Nat,clss (List.replicate c (putT n true 0 []))=[]
  | 0=>by simp [clss]
  | c + 1=>by rw [List.replicate_succ,clss,clss_rep c];simp [cls,clss,lcl]
theorem cls_wide (c:Nat):cls (wideT n a c inner)=clss inner:=by
  simp only [wideT,cls,lcl,List.nil_append,clss_app,clss_rep]
theorem cls_deep:∀ c:Nat,cls (deepT n a inner c)=clss inner
  | 0=>by simp [deepT,cls,lcl]
  | c + 1=>by simp [deepT,cls,lcl,clss,cls_deep c]
theorem lvs_rep:∀ c:Nat,lvs (List.replicate c (putT n true 0 []) ++ inner)≤max 1 (lvs inner)
  | 0=>by simp;omega
  | c + 1=>by
    have:=lvs_rep c
    rw [List.replicate_succ,List.cons_append,lvs]
    have h:lv (putT n true 0 [])=1:=by simp [lv,lvs]
    rw [h];omega
theorem lv_wide (c:Nat):lv (wideT n a c inner)≤1 + max 1 (lvs inner):=by
  rw [wideT,lv]
  have:=lvs_rep (n:=n) (inner:=inner) c
  omega
theorem szs_rep:∀ c:Nat,szs (List.replicate c (putT n true 0 []) ++ inner)=c + szs inner
  | 0=>by simp
  | c + 1=>by
    have:=szs_rep c
    rw [List.replicate_succ,List.cons_append,szs,this]
    have h:sz (putT n true 0 [])=1:=by simp [sz,szs]
    rw [h];omega
theorem sz_wide (c:Nat):sz (wideT n a c inner)=1 + (c + szs inner):=by rw [wideT,sz,szs_rep]
theorem lv_deep:∀ c:Nat,lv (deepT n a inner c)=1 + c + lvs inner
  | 0=>by simp [deepT,lv]
  | c + 1=>by rw [deepT,lv,lvs,lvs,lv_deep c];omega
theorem sz_deep:∀ c:Nat,sz (deepT n a inner c)=1 + c + szs inner
  | 0=>by simp [deepT,sz]
  | c + 1=>by rw [deepT,sz,szs,szs,sz_deep c];omega
theorem lab_deep:∀ c:Nat,∃ k:Bool,lab (deepT n a inner c)=.put n k a
  | 0=>⟨true,rfl⟩
  | c + 1=>⟨_,rfl⟩
end
mutual
theorem sz_fill {m:Int} {cr:Int→Int→Tree Str} {cm:Int→Int→Nat}:∀ t:Tm,(∀ c ∈ cls t,sz (cr c.1 c.2)=cm c.1 c.2)→sz (fillT (fun l xs=>opR l m xs) cr t)=fillT (fun l xs=>opM l m xs) cm t
  | .node (.call mo b) _ bs,h=>by
    simp only [fillT]
    exact h (mo,b) (by simp [cls,lcl])
  | .node (.put n k a) _ bs,h=>by
    rw [fillT,fillT]
    show 1 + szs (fillTs (fun l xs=>opR l m xs) cr bs)=1 + (fillTs (fun l xs=>opM l m xs) cm bs).sum
    rw [sz_fills bs fun c hc=>h c (by simp [cls,lcl];exact hc)]
theorem sz_fills {m:Int} {cr:Int→Int→Tree Str} {cm:Int→Int→Nat}:∀ ts:List Tm,(∀ c ∈ clss ts,sz (cr c.1 c.2)=cm c.1 c.2)→szs (fillTs (fun l xs=>opR l m xs) cr ts)=(fillTs (fun l xs=>opM l m xs) cm ts).sum
  | [],_=>by simp [fillTs,szs]
  | t :: r,h=>by
    simp only [fillTs,szs,List.sum_cons]
    rw [sz_fill t fun c hc=>h c (by simp [clss];exact .inl hc),sz_fills r fun c hc=>h c (by simp [clss];exact .inr hc)]
end
abbrev dT:Tree Str:=.node (S []) 0 []
theorem sz_och {bare full:Tm} {mk:Nat→Int} (hb:cls bare=[]):∀ k:Nat,sz (och opR dT bare full mk k)=och opM 0 bare full mk k
  | 0=>by
    rw [och,och]
    exact sz_fill bare fun c hc=>by rw [hb] at hc;cases hc
  | k + 1=>by
    rw [och,och]
    exact sz_fill full fun c hc=>sz_och hb k
theorem lay_wide {n:Str} {a m:Int} {cr:Int→Int→Tree Str} {inner:List Tm} (c:Nat) (hn:PyData.strOk n=true) (h:∀ u ∈ inner,LayT (fillT (fun l xs=>opR l m xs) cr u)):LayT (fillT (fun l xs=>opR l m xs) cr (wideT n a c inner)):=by
  simp only [wideT,fillT,fillTs_map,opR]
  refine LayT.node hn fun t ht=>?_
  rw [List.map_append] at ht
  rcases List.mem_append.mp ht with ht | ht
  · obtain ⟨u,hu,rfl⟩:=List.mem_map.mp ht
    rw [List.eq_of_mem_replicate hu]
    simp only [fillT,fillTs,opR]
    exact LayT.node hn fun t ht=>by cases ht
  · obtain ⟨u,hu,rfl⟩:=List.mem_map.mp ht
    exact h u hu
theorem lay_deep {n:Str} {a m:Int} {cr:Int→Int→Tree Str} {inner:List Tm} (hn:PyData.strOk n=true) (h:∀ u ∈ inner,LayT (fillT (fun l xs=>opR l m xs) cr u)):∀ c:Nat,LayT (fillT (fun l xs=>opR l m xs) cr (deepT n a inner c))
  | 0=>by
    simp only [deepT,fillT,fillTs_map,opR]
    refine LayT.node hn fun t ht=>?_
    obtain ⟨u,hu,rfl⟩:=List.mem_map.mp ht
    exact h u hu
  | c + 1=>by
    rw [deepT,fillT,fillTs,fillTs]
    refine LayT.node (n:=n) hn fun t ht=>?_
    have e:t=fillT (fun l xs=>opR l m xs) cr (deepT n a inner c):=by simpa using ht
    rw [e]
    exact lay_deep hn h c
section
variable {sides:Bool} {n3 n4:Str} {a:Int} {each last:Nat} {mk mk':Nat→Int}
theorem lay_och (h3:PyData.strOk n3=true) (h4:PyData.strOk n4=true):∀ k:Nat,NmT (och opR dT (bareF sides n3 a last) (fullF sides n4 a each) mk k)
  | 0=>by
    show LayT _
    rw [och]
    cases sides with
    | true=>exact lay_wide _ h3 fun u hu=>by cases hu
    | false=>exact lay_deep h3 (fun u hu=>by cases hu) _
  | k + 1=>by
    have ih:LayT (och opR dT (bareF sides n3 a last) (fullF sides n4 a each) mk k):=lay_och h3 h4 k
    show LayT _
    rw [och]
    have hin:∀ u ∈ [leaf 0 0],LayT (fillT (fun l xs=>opR l (mk (k + 1)) xs) (fun _ _=>och opR dT (bareF sides n3 a last) (fullF sides n4 a each) mk k) u):=fun u hu=>by
      have e:u=leaf 0 0:=by simpa using hu
      rw [e];simp only [leaf,fillT];exact ih
    cases sides with
    | true=>exact lay_wide _ h4 hin
    | false=>exact lay_deep h4 hin _
theorem many_och (h1:1≤last) (h2:1≤each):∀ k:Nat,och opM 0 (bareF sides n3 a last) (fullF sides n4 a each) mk k=last + k * each
  | 0=>by
    rw [och]
    cases sides with
    | true =>
      have:=many_wide (mk:=mk 0) (cv:=fun _ _=>0) (n:=n3) (a:=a) (c:=last - 1) false
      simp only [bareF,if_true] at this ⊢
      rw [if_neg Bool.false_ne_true] at this
      rw [this,if_neg Bool.false_ne_true];omega
    | false =>
      have:=many_deep (mk:=mk 0) (cv:=fun _ _=>0) (n:=n3) (a:=a) false (last - 1)
      rw [if_neg Bool.false_ne_true,if_neg Bool.false_ne_true] at this
      simp only [bareF,Bool.false_eq_true,if_false]
      rw [this];omega
  | k + 1=>by
    have ih:=many_och h1 h2 k
    rw [och]
    have e:(k + 1) * each=k * each + each:=Nat.succ_mul k each
    cases sides with
    | true =>
      have:=many_wide (mk:=mk (k + 1)) (cv:=fun _ _=>och opM 0 (bareF true n3 a last) (fullF true n4 a each) mk k) (n:=n4) (a:=a) (c:=each - 1) true
      rw [if_pos rfl,if_pos rfl] at this
      refine Eq.trans this ?_
      rw [ih];omega
    | false =>
      have:=many_deep (mk:=mk (k + 1)) (cv:=fun _ _=>och opM 0 (bareF false n3 a last) (fullF false n4 a each) mk k) (n:=n4) (a:=a) true (each - 1)
      rw [if_pos rfl,if_pos rfl] at this
      refine Eq.trans this ?_
      rw [ih];omega
def tl (sides:Bool) (each last k:Nat):Nat:=if sides then k + 1 + (if 1 < last then 1 else 0) else last + k * each
theorem tall_och (h1:1≤last) (h2:1≤each):∀ k:Nat,och opT 0 (bareF sides n3 a last) (fullF sides n4 a each) mk k=tl sides each last k
  | 0=>by
    rw [och]
    cases sides with
    | true =>
      have:=tall_wide (mk:=mk 0) (cv:=fun _ _=>0) (n:=n3) (a:=a) (c:=last - 1) false (fun z=>nomatch z)
      rw [if_neg Bool.false_ne_true,if_neg Bool.false_ne_true] at this
      show fillT _ _ (wideT n3 a (last - 1) [])=_
      rw [this,tl,if_pos rfl]
      by_cases h:1 < last
      · rw [if_neg (by omega),if_pos h]
      · rw [if_pos (by omega),if_neg h]
    | false =>
      have:=tall_deep (mk:=mk 0) (cv:=fun _ _=>0) (n:=n3) (a:=a) false (last - 1)
      rw [if_neg Bool.false_ne_true,if_neg Bool.false_ne_true] at this
      show fillT _ _ (deepT n3 a [] (last - 1))=_
      rw [this,tl,if_neg Bool.false_ne_true];omega
  | k + 1=>by
    have ih:=tall_och h1 h2 k
    rw [och]
    have e:(k + 1) * each=k * each + each:=Nat.succ_mul k each
    cases sides with
    | true =>
      rw [tl,if_pos rfl] at ih
      have:=tall_wide (mk:=mk (k + 1)) (cv:=fun _ _=>och opT 0 (bareF true n3 a last) (fullF true n4 a each) mk k) (n:=n4) (a:=a) (c:=each - 1) true (fun _=>by rw [ih];omega)
      rw [if_pos rfl,if_pos rfl] at this
      refine Eq.trans this ?_
      rw [ih,tl,if_pos rfl];omega
    | false =>
      rw [tl,if_neg Bool.false_ne_true] at ih
      have:=tall_deep (mk:=mk (k + 1)) (cv:=fun _ _=>och opT 0 (bareF false n3 a last) (fullF false n4 a each) mk k) (n:=n4) (a:=a) true (each - 1)
      rw [if_pos rfl,if_pos rfl] at this
      refine Eq.trans this ?_
      rw [ih,tl,if_neg Bool.false_ne_true];omega
theorem cls_bareF:cls (bareF sides n3 a last)=[]:=by
  cases sides with
  | true=>show cls (wideT n3 a (last - 1) [])=[];rw [cls_wide];simp [clss]
  | false=>show cls (deepT n3 a [] (last - 1))=[];rw [cls_deep];simp [clss]
theorem cls_fullF:cls (fullF sides n4 a each)=[(0,0)]:=by
  cases sides with
  | true=>show cls (wideT n4 a (each - 1) [leaf 0 0])=_;rw [cls_wide];simp [clss,cls,leaf,lcl]
  | false=>show cls (deepT n4 a [leaf 0 0] (each - 1))=_;rw [cls_deep];simp [clss,cls,leaf,lcl]
theorem lab_bareF:∃ k:Bool,lab (bareF sides n3 a last)=.put n3 k a:=by
  cases sides with
  | true=>exact ⟨false,rfl⟩
  | false=>exact lab_deep (last - 1)
theorem lab_fullF:∃ k:Bool,lab (fullF sides n4 a each)=.put n4 k a:=by
  cases sides with
  | true=>exact ⟨false,rfl⟩
  | false=>exact lab_deep (each - 1)
theorem lv_bareF (h1:1≤last) (h:last≤30) (h7:sides=false→last≤7):lv (bareF sides n3 a last)≤8∧sz (bareF sides n3 a last)≤100:=by
  cases sides with
  | true =>
    have h1:=lv_wide (n:=n3) (a:=a) (inner:=[]) (last - 1)
    have h2:=sz_wide (n:=n3) (a:=a) (inner:=[]) (last - 1)
    simp only [lvs,szs] at h1 h2
    show lv (wideT n3 a (last - 1) [])≤8∧sz (wideT n3 a (last - 1) [])≤100
    omega
  | false =>
    have h7:=h7 rfl
    have h1:=lv_deep (n:=n3) (a:=a) (inner:=[]) (last - 1)
    have h2:=sz_deep (n:=n3) (a:=a) (inner:=[]) (last - 1)
    simp only [lvs,szs] at h1 h2
    show lv (deepT n3 a [] (last - 1))≤8∧sz (deepT n3 a [] (last - 1))≤100
    omega
theorem lv_fullF (h1:1≤each) (h:each≤30) (h7:sides=false→each≤7):lv (fullF sides n4 a each)≤8∧sz (fullF sides n4 a each)≤100:=by
  have e1:lvs [leaf 0 0]=1:=by simp [leaf,lvs,lv]
  have e2:szs [leaf 0 0]=1:=by simp [leaf,szs,sz]
  cases sides with
  | true =>
    have h1:=lv_wide (n:=n4) (a:=a) (inner:=[leaf 0 0]) (each - 1)
    have h2:=sz_wide (n:=n4) (a:=a) (inner:=[leaf 0 0]) (each - 1)
    rw [e1] at h1
    rw [e2] at h2
    show lv (wideT n4 a (each - 1) [leaf 0 0])≤8∧sz (wideT n4 a (each - 1) [leaf 0 0])≤100
    omega
  | false =>
    have h7:=h7 rfl
    have h1:=lv_deep (n:=n4) (a:=a) (inner:=[leaf 0 0]) (each - 1)
    have h2:=sz_deep (n:=n4) (a:=a) (inner:=[leaf 0 0]) (each - 1)
    rw [e1] at h1
    rw [e2] at h2
    show lv (deepT n4 a [leaf 0 0] (each - 1))≤8∧sz (deepT n4 a [leaf 0 0] (each - 1))≤100
    omega
theorem ch_congr {n1 n2:Str}:∀ k:Nat,(∀ j,j≤k→mk j=mk' j)→ch n1 n2 mk k=ch n1 n2 mk' k
  | 0,h=>by rw [ch,ch,h 0 (Nat.le_refl _)]
  | k + 1,h=>by rw [ch,ch,h (k + 1) (Nat.le_refl _),ch_congr k fun j hj=>h j (by omega)]
theorem och_congr {α:Type} {op:Lab→Int→List α→α} {d:α} {bare full:Tm}:∀ k:Nat,(∀ j,j≤k→mk j=mk' j)→och op d bare full mk k=och op d bare full mk' k
  | 0,h=>by rw [och,och,h 0 (Nat.le_refl _)]
  | k + 1,h=>by rw [och,och,h (k + 1) (Nat.le_refl _),och_congr k fun j hj=>h j (by omega)]
def pM (mk:Nat→Int) (i:Nat) (x:Int):Nat→Int:=fun j=>if j=i then x else mk j
theorem pM_lt {i:Nat} {x:Int}:∀ j,j≤i→mk j=pM mk (i + 1) x j:=fun j hj=>by unfold pM;rw [if_neg (by omega)]
theorem pM_at {i:Nat} {x:Int}:pM mk i x i=x:=if_pos rfl
theorem ch_put {n1 n2:Str} {i:Nat} {x:Int}:ch n1 n2 (pM mk (i + 1) x) (i + 1)=.node n2 x [ch n1 n2 mk i]:=by
  rw [ch,pM_at,← ch_congr i pM_lt]
theorem och_put {α:Type} {op:Lab→Int→List α→α} {d:α} {bare full:Tm} {i:Nat} {x:Int}:och op d bare full (pM mk (i + 1) x) (i + 1)=fillT (fun l xs=>op l x xs) (fun _ _=>och op d bare full mk i) full:=by
  rw [och,pM_at,← och_congr i pM_lt]
theorem root_fill {n:Str} {k:Bool} {t:Tm} {m:Int} {cr:Int→Int→Tree Str} (h:lab t=.put n k a):∃ m' ts,fillT (fun l xs=>opR l m xs) cr t=.node n m' ts:=by
  cases t with
  | node l _ bs =>
    obtain rfl:l=.put n k a:=h
    simp only [fillT,opR]
    exact ⟨_,_,rfl⟩
theorem root_och {k:Nat}:∃ m' ts,och opR dT (bareF sides n3 a last) (fullF sides n4 a each) mk k=.node (if k=0 then n3 else n4) m' ts:=by
  cases k with
  | zero =>
    obtain ⟨b,hb⟩:=lab_bareF (sides:=sides) (n3:=n3) (a:=a) (last:=last)
    rw [och,if_pos rfl];exact root_fill hb
  | succ k =>
    obtain ⟨b,hb⟩:=lab_fullF (sides:=sides) (n4:=n4) (a:=a) (each:=each)
    rw [och,if_neg (by omega)];exact root_fill hb
end
structure Nums (X:Int) (goal each steps last:Nat) (sides:Bool):Prop where
  go:(goal:Int)=if X / 8 % 3=0 then 398 + X % 6 else if X / 8 % 3=1 then 58 + X % 6 else 14 + X % 30
  sd:sides=decide (X / 8 % 3=0)
  ea:(each:Int)=if X / 8 % 3=0 then 12 + X / 64 % 8 else 2 + X / 64 % 6
  st:steps=(goal - 1) / each
  la:last=goal - steps * each
theorem nums_ex {X:Int} (h:0≤X):∃ goal each steps last sides,Nums X goal each steps last sides:=by
  refine ⟨(if X / 8 % 3=0 then 398 + X % 6 else if X / 8 % 3=1 then 58 + X % 6 else 14 + X % 30).toNat,(if X / 8 % 3=0 then 12 + X / 64 % 8 else 2 + X / 64 % 6).toNat,_,_,_,?_,rfl,?_,rfl,rfl⟩
  · rw [Int.toNat_of_nonneg];split <;> (try split) <;> omega
  · rw [Int.toNat_of_nonneg];split <;> omega
section
variable {X:Int} {goal each steps last:Nat} {sides:Bool}
theorem Nums.eq (h:Nums X goal each steps last sides):each≤(if sides then 19 else 7)∧(if sides then 12 else 2)≤each∧goal≤(if sides then 403 else 63)∧(if sides then 398 else 14)≤goal:=by
  have h1:=h.go
  have h2:=h.ea
  rw [h.sd]
  by_cases c:X / 8 % 3=0
  · rw [if_pos c] at h1 h2
    simp only [c,decide_true,if_true]
    omega
  · rw [if_neg c] at h1 h2
    simp only [c,decide_false,Bool.false_eq_true,if_false]
    split at h1 <;> omega
theorem Nums.all (h:Nums X goal each steps last sides):2≤each∧each≤19∧(sides=false→each≤7)∧1≤last∧last≤each∧goal=last + steps * each∧steps≤33∧14≤goal∧goal≤403∧(sides=false→goal≤63):=by
  obtain ⟨e1,e2,g1,g2⟩:=h.eq
  have hst:=h.st
  have hla:=h.la
  have e0:2≤each:=by cases sides <;> simp at e2 <;> omega
  have d1:steps * each≤goal - 1:=by rw [hst];exact Nat.div_mul_le_self _ _
  have d2:goal - 1 < (steps + 1) * each:=by rw [hst];exact (Nat.div_lt_iff_lt_mul (by omega)).mp (Nat.lt_succ_self _)
  have d3:(steps + 1) * each=steps * each + each:=Nat.succ_mul steps each
  have g0:14≤goal:=by cases sides <;> simp at g2 <;> omega
  have s33:steps≤33:=by
    refine Nat.le_of_not_lt fun z=>?_
    cases sides with
    | true =>
      simp at e2 g1
      have:34 * 12≤steps * each:=Nat.mul_le_mul z e2
      omega
    | false =>
      simp at g1
      have:34 * 2≤steps * each:=Nat.mul_le_mul z e0
      omega
  refine ⟨e0,by cases sides <;> simp at e1 <;> omega,fun z=>?_,by omega,by omega,by omega,s33,g0,by cases sides <;> simp at g1 <;> omega,fun z=>?_⟩
  · subst z;simpa using e1
  · subst z;simpa using g1
end
end K26
namespace K26
open PySem L2 TM TT K9 K11
theorem two_sorted {kd n1 n2:Str} {p1 q1 p2 q2:Addr} {out:List PNx} (hp:out.Perm [(p1,n1,q1,[]),(p2,n2,q2,[kd])]) (hs:out.Pairwise fun x y=>¬ y.2.1.cps.toList < x.2.1.cps.toList) (ne:n1≠n2) :
    (n2.cps.toList < n1.cps.toList∧out=[(p2,n2,q2,[kd]),(p1,n1,q1,[])])∨(¬ n2.cps.toList < n1.cps.toList∧out=[(p1,n1,q1,[]),(p2,n2,q2,[kd])]):=by
  have hl:=hp.length_eq
  match out,hl with
  | [x,y],_ =>
    have hne:n1.cps.toList≠n2.cps.toList:=fun z=>ne (by
      cases n1;cases n2
      congr 1
      exact Array.toList_inj.mp z)
    have hx:x ∈ [(p1,n1,q1,[]),(p2,n2,q2,[kd])]:=hp.subset (by simp)
    have hxy:¬ y.2.1.cps.toList < x.2.1.cps.toList:=(List.pairwise_cons.mp hs).1 y (by simp)
    simp only [List.mem_cons,List.not_mem_nil,or_false] at hx
    rcases hx with rfl | rfl
    · have hy:=(List.perm_cons _).mp hp
      have ey:y=(p2,n2,q2,[kd]):=by simpa using hy.eq_singleton
      subst ey
      exact .inr ⟨hxy,rfl⟩
    · have hp':[(p2,n2,q2,[kd]),y].Perm [(p2,n2,q2,[kd]),(p1,n1,q1,[])]:=hp.trans (List.Perm.swap _ _ _)
      have hy:=(List.perm_cons _).mp hp'
      have ey:y=(p1,n1,q1,[]):=by simpa using hy.eq_singleton
      subst ey
      refine .inl ⟨?_,rfl⟩
      refine Decidable.byContradiction fun z=>hne ?_
      exact (List.le_antisymm (as:=n2.cps.toList) (bs:=n1.cps.toList) hxy z).symm
theorem nm_ne {nms:List Str} (h8:nms.length=8) (nd:nms.Nodup) {i j:Nat} (hi:i < 8) (hj:j < 8) (h:i≠j):nmA nms i≠nmA nms j:=fun e=>h (by
  have e1:nmA nms i=nms[i]:=by simp [nmA,List.getD,List.getElem?_eq_getElem (show i < nms.length by omega)]
  have e2:nmA nms j=nms[j]:=by simp [nmA,List.getD,List.getElem?_eq_getElem (show j < nms.length by omega)]
  rw [e1,e2] at e
  exact (List.getElem_inj nd).mp e)
theorem nm_in {nms:List Str} (h8:nms.length=8) {i:Nat} (hi:i < 8):nmA nms i ∈ nms:=by
  have e1:nmA nms i=nms[i]:=by simp [nmA,List.getD,List.getElem?_eq_getElem (show i < nms.length by omega)]
  rw [e1];exact List.getElem_mem _
def rl26 (n1 n2:Str) (bare full:Tm):List Tm:=if n2.cps.toList < n1.cps.toList then [full,bare] else [bare,full]
theorem two_rl {kd n1 n2:Str} {bare full:Tm} {p1 q1 p2 q2:Addr} {out:List PNx} (hp:out.Perm [(p1,n1,q1,[]),(p2,n2,q2,[kd])]) (hs:out.Pairwise fun x y=>¬ y.2.1.cps.toList < x.2.1.cps.toList) (ne:n1≠n2):Two kd n1 n2 bare full out (rl26 n1 n2 bare full):=by
  unfold rl26
  rcases two_sorted hp hs ne with ⟨h,e⟩ | ⟨h,e⟩
  · exact ⟨p1,q1,p2,q2,.inr ⟨e,by rw [if_pos h]⟩⟩
  · exact ⟨p1,q1,p2,q2,.inl ⟨e,by rw [if_neg h]⟩⟩
def spLaw (K:PySem.W.Frag) (T1 T2 T3:Addr):Sp:=fun vs H Q _=>∃ (a:Addr) (ns:List Int),vs=[.ref a]∧SqL K H a (ns.map V.int)∧ns.length≤63∧T1≠T2∧T1≠T3∧T2≠T3∧H T1=some (.tbl #[])∧H T2=some (.tbl #[])∧H T3=some (.tbl #[])∧∀ H',Q (.bl true) H'
abbrev lawN:List Str:=["_law_script", "_law_names_here", "_law_number", "_law_goal", "_law_sides", "_law_each", "_law_steps", "_law_last", "_law_bare", "_law_full", "_law_rows", "_law_rules_here", "_law_turning", "_law_mark", "_law_tree", "_law_due", "_law_k", "_law_deep_here", "_law_ask", "_law_found"]
section
variable {P:Program} {w:World} {K:PySem.W.Frag} {mg:Str→Option Value} {base:Heap} {f:Addr} {fd:FuncData}
theorem at_goal {X:Int} {goal each steps last:Nat} {sides:Bool} (h:Nums X goal each steps last sides) (h0:0≤X):atI [V.int (398 + X % 6),V.int (58 + X % 6),V.int (14 + X % 30)] (X / 8 % 3)=some (V.int (goal:Int)):=by
  have hg:=h.go
  rcases (show X / 8 % 3=0∨X / 8 % 3=1∨X / 8 % 3=2 by omega) with c | c | c
  · rw [if_pos c] at hg;rw [c,hg];rfl
  · rw [if_neg (by omega),if_pos c] at hg;rw [c,hg];rfl
  · rw [if_neg (by omega),if_neg (by omega)] at hg;rw [c,hg];rfl
theorem at_each {X:Int} {goal each steps last:Nat} {sides:Bool} (h:Nums X goal each steps last sides):atI [V.int (2 + X / 64 % 6),V.int (12 + X / 64 % 8)] (if sides=true then 1 else 0)=some (V.int (each:Int)):=by
  have hg:=h.ea
  rw [h.sd]
  by_cases c:X / 8 % 3=0
  · rw [if_pos c] at hg;rw [hg,decide_eq_true c];rfl
  · rw [if_neg c] at hg;rw [hg,decide_eq_false c];rfl
theorem scLaw:FnScope lawN ["_law_script"] (defScope sLaw):=⟨rfl,rfl,rfl,by decide +kernel,rfl,by decide +kernel,by decide +kernel⟩
theorem ok_law {T1 T2 T3:Addr} (F:Fun K "law" "law" sLaw f fd) (G:Gm mg) (RC:Fn P w K mg base 1 "_law_cell_at" ["_law_script", "_law_k"] (spCell K)) (RM:Fn P w K mg base 1 "_law_mixed" ["_law_cell", "_law_k"] spMixed) (RN':Fn P w K mg base 2 "_law_names" ["_law_cell"] (spNames K)) (RG:Fn P w K mg base 1 "_law_great" ["_law_cell"] spGreat) (RRu:Fn P w K mg base 2 "_law_rules" ["_law_names_here", "_law_add", "_law_sides", "_law_each", "_law_last"] (spRules K)) (RP:Fn P w K mg base 9 "_law_put" ["_law_term", "_law_mark", "_law_below"] (spPut K 8)) (RWk:Fn P w K mg base 2 "_law_walk" ["_law_found", "_law_due"] (spWalk K)) (RA:Fn P w K mg base 58 "_law_answer" ["_law_turning", "_law_tree", "_law_ask"] (spAns K T1 T2 T3)) (RMa:Fn P w K mg base 56 "many" ["turning", "tree"] (spTell K T1 eM qM opM)) (RTa:Fn P w K mg base 56 "tall" ["turning", "tree"] (spTell K T2 eT qT opT)) (RSe:Fn P w K mg base 45 "seen" ["turning", "tree", "place"] (spSeen K)) :
    FnOk P w K mg base CX0 59 f fd ["_law_script"] (spLaw K T1 T2 T3):=by
  refine F.ok scLaw (fun vs H Q E h=>?_) (fun cdv A outer s H vs Q E hr h=>?_)
  · obtain ⟨a,cs,rfl,_⟩:=h
    rfl
  obtain ⟨a,ns,rfl,hS,h63,d12,d13,d23,t1,t2,t3,q⟩:=h
  have room:∀ m:Nat,m≤64→(A.deeper (PyProof.Rows.envOfC "law" (defScope sLaw) s.heap.objs.size f cdv)).units + m < cLine:=fun m hm=>by have:=hr.units;omega
  refine ⟨_,(pss_cons (ps_set (i:=1) scLaw.nd rfl (Or.inl rfl) (pe_fn RN' hr (pa_cons (pe_fn RC hr (pa_cons (pv 0) (pa_cons (pe_int) pa_nil))) pa_nil)))
    (pss_cons (ps_set (i:=2) scLaw.nd rfl (Or.inl rfl) (pe_fn RM hr (pa_cons (pe_fn RC hr (pa_cons (pv 0) (pa_cons (pe_int) pa_nil))) (pa_cons (pe_int) pa_nil))))
    (pss_cons (ps_set (i:=3) scLaw.nd rfl (Or.inl rfl) (pe_ix ix_list (pe_lst (pa_cons (pe_op op_add pe_int (pe_op op_mod (pv 2) pe_int)) (pa_cons (pe_op op_add pe_int (pe_op op_mod (pv 2) pe_int)) (pa_cons (pe_op op_add pe_int (pe_op op_mod (pv 2) pe_int)) pa_nil)))) (pe_op op_mod (pe_op op_fdiv (pv 2) pe_int) pe_int) (fun _ _=>rfl)))
    (pss_cons (ps_set (i:=4) scLaw.nd rfl (Or.inl rfl) (pe_cmpR op_eq (pe_op op_mod (pe_op op_fdiv (pv 2) pe_int) pe_int) pe_int (nomark _)))
    (pss_cons (ps_set (i:=5) scLaw.nd rfl (Or.inl rfl) (pe_ix ix_list (pe_lst (pa_cons (pe_op op_add pe_int (pe_op op_mod (pe_op op_fdiv (pv 2) pe_int) pe_int)) (pa_cons (pe_op op_add pe_int (pe_op op_mod (pe_op op_fdiv (pv 2) pe_int) pe_int)) pa_nil))) (pe_callTy call_int1 rfl G.int PyProof.Rows.boot_int (pa_cons (pv 4) pa_nil)) (fun _ _=>rfl)))
    (pss_cons (ps_set (i:=6) scLaw.nd rfl (Or.inl rfl) (pe_op op_fdiv (pe_op op_sub (pv 3) pe_int) (pv 5)))
    (pss_cons (ps_set (i:=7) scLaw.nd rfl (Or.inl rfl) (pe_op op_sub (pv 3) (pe_op op_mul (pv 6) (pv 5))))
    (pss_cons (ps_asg (pe_fn RRu hr (pa_cons (pv 1) (pa_cons (pe_fn RG hr (pa_cons (pe_fn RC hr (pa_cons (pv 0) (pa_cons (pe_int) pa_nil))) pa_nil)) (pa_cons (pv 4) (pa_cons (pv 5) (pa_cons (pv 7) pa_nil)))))) (pg_lst rfl (pgs_cons (pg_name (i:=8) scLaw.nd rfl (Or.inl rfl)) (pgs_cons (pg_name (i:=9) scLaw.nd rfl (Or.inl rfl)) pgs_nil))))
    (pss_cons (ps_set (i:=10) scLaw.nd rfl (Or.inl rfl) (pe_callB (call_sortedN (room 4 (by decide))) rfl G.srt PyProof.Rows.boot_sorted (pa_cons ((pe_lst (pa_cons ((pe_tup (pa_cons (pe_ix ix_list (pv 1) pe_int (fun _ _=>rfl)) (pa_cons (pe_tup pa_nil) pa_nil)))) (pa_cons ((pe_tup (pa_cons (pe_ix ix_list (pv 1) pe_int (fun _ _=>rfl)) (pa_cons ((pe_tup (pa_cons (pe_ix ix_list (pv 1) pe_int (fun _ _=>rfl)) pa_nil))) pa_nil)))) pa_nil)))) pa_nil)))
    (pss_cons (ps_set (i:=11) scLaw.nd rfl (Or.inl rfl) (pe_lst (pa_cons (pv 8) (pa_cons (pv 9) pa_nil))))
    (pss_cons (ps_cut (ps_if (pt_cmpR op_lt_str (pe_ix ix_list (pv 1) pe_int (fun _ _=>rfl)) (pe_ix ix_list (pv 1) pe_int (fun _ _=>rfl)) (nomark _)) (pss_one (ps_set (i:=11) scLaw.nd rfl (Or.inl rfl) (pe_lst (pa_cons (pv 9) (pa_cons (pv 8) pa_nil))))) pss_nil))
    (pss_cons (ps_set (i:=12) scLaw.nd rfl (Or.inl rfl) (pe_tup (pa_cons ((pe_lst (pa_cons ((pe_tup (pa_cons (pe_ix ix_list (pv 1) pe_int (fun _ _=>rfl)) (pa_cons (pv 10) pa_nil)))) pa_nil))) (pa_cons ((pe_tup (pa_cons (pe_str) (pa_cons (pe_int) (pa_cons (pe_int) pa_nil))))) (pa_cons ((pe_lst (pa_cons ((pe_tup (pa_cons (pe_ix ix_list (pv 1) pe_int (fun _ _=>rfl)) (pa_cons (pv 11) pa_nil)))) pa_nil))) pa_nil)))))
    (pss_cons (ps_set (i:=13) scLaw.nd rfl (Or.inl rfl) (pe_fn RG hr (pa_cons (pe_fn RC hr (pa_cons (pv 0) (pa_cons (pe_int) pa_nil))) pa_nil)))
    (pss_cons (ps_set (i:=14) scLaw.nd rfl (Or.inl rfl) (pe_tup (pa_cons (pe_ix ix_list (pv 1) pe_int (fun _ _=>rfl)) (pa_cons (pv 13) (pa_cons (pe_tup pa_nil) pa_nil)))))
    (pss_cons (ps_set (i:=15) scLaw.nd rfl (Or.inl rfl) (pe_fn RP hr (pa_cons (pv 8) (pa_cons (pv 13) (pa_cons (pe_non) pa_nil)))))
    (pss_cons (ps_for PassesOwn.never rfl (pi_range1 rfl G.rng (pa_cons (pv 6) pa_nil)) (pg_name (i:=16) scLaw.nd rfl (Or.inl rfl)) (pss_cons (ps_set (i:=13) scLaw.nd rfl (Or.inl rfl) (pe_fn RG hr (pa_cons (pe_fn RC hr (pa_cons (pv 0) (pa_cons (pe_op op_add pe_int (pv 16)) pa_nil))) pa_nil)))
    (pss_cons (ps_set (i:=14) scLaw.nd rfl (Or.inl rfl) (pe_tup (pa_cons (pe_ix ix_list (pv 1) pe_int (fun _ _=>rfl)) (pa_cons (pv 13) (pa_cons ((pe_tup (pa_cons (pv 14) pa_nil))) pa_nil)))))
    (pss_one (ps_set (i:=15) scLaw.nd rfl (Or.inl rfl) (pe_fn RP hr (pa_cons (pv 9) (pa_cons (pv 13) (pa_cons (pv 15) pa_nil)))))))))
    (pss_cons (ps_set (i:=17) scLaw.nd rfl (Or.inl rfl) (pv 3))
    (pss_cons (ps_cut (ps_if (pt_val (pv 4)) (pss_one (ps_set (i:=17) scLaw.nd rfl (Or.inl rfl) (pe_op op_add (pe_op op_add (pv 6) pe_int) (pe_callTy call_int1 rfl G.int PyProof.Rows.boot_int (pa_cons (pe_cmpR op_gt (pv 7) pe_int (nomark _)) pa_nil))))) pss_nil))
    (pss_cons (ps_if (PW.pt (pw_or (pt_cmpR op_ne (pe_fn RMa hr (pa_cons (pv 12) (pa_cons (pv 14) pa_nil))) (pv 3) (nomark _)) (pw_or (pt_cmpR op_ne (pe_fn RTa hr (pa_cons (pv 12) (pa_cons (pv 14) pa_nil))) (pv 17) (nomark _)) (pw_or1 (pt_cmpR op_ne (pe_ix ix_tup (pe_fn RSe hr (pa_cons (pv 12) (pa_cons (pv 14) (pa_cons (pe_tup pa_nil) pa_nil)))) pe_int (fun _ _=>rfl)) (pe_ix ix_tup (pv 15) pe_int (fun _ _=>rfl)) (nomark _)))))) (pss_one (ps_ret pe_bl)) pss_nil)
    (pss_cons (ps_for PassesOwn.never rfl (pi_range1 rfl G.rng (pa_cons (pe_int) pa_nil)) (pg_name (i:=18) scLaw.nd rfl (Or.inl rfl)) (pss_cons (ps_cut (ps_set (i:=19) scLaw.nd rfl (Or.inl rfl) (pe_fn RA hr (pa_cons (pv 12) (pa_cons (pv 14) (pa_cons (pv 18) pa_nil))))))
    (pss_one (ps_if (PW.pt (pw_or (pt_cmpR op_gt (pv 3) pe_int (nomark _)) (pw_or1 (pt_cmpR op_gt (pv 17) pe_int (nomark _)))))
        (pss_one (ps_if (pt_cmpR op_neD (pv 19) (pe_lst (pa_cons (pe_bl) pa_nil)) (nomark _)) (pss_one (ps_ret pe_bl)) pss_nil))
        (pss_one (ps_if (pt_not (pt_val (pe_fn RWk hr (pa_cons (pv 19) (pa_cons (pv 15) pa_nil))))) (pss_one (ps_ret pe_bl)) pss_nil))))))
    (pss_one (ps_ret (pe_fn RWk hr (pa_cons (pe_fn RA hr (pa_cons (pv 12) (pa_cons ((pe_tup (pa_cons (pe_ix ix_list (pv 1) pe_int (fun _ _=>rfl)) (pa_cons (pv 13) (pa_cons (pe_tup pa_nil) pa_nil))))) (pa_cons (pe_int) pa_nil)))) (pa_cons (pe_fn RP hr (pa_cons (pv 8) (pa_cons (pv 13) (pa_cons (pe_non) pa_nil)))) pa_nil))))))))))))))))))))))))),?_⟩
  refine ⟨_,rfl,a,ns,0,rfl,by decide,hS,fun c0=>⟨_,rfl,fun ln H1 nms g1 hln h8 hnd hok hLN=>?_⟩⟩
  have hN1:SqL K H1 ln (nms.map V.str):=SqL.of hln
  refine ⟨_,rfl,a,ns,1,rfl,by decide,g1.seq hS,fun c1=>⟨_,_,rfl,by decide,by decide,fun X X0 _=>?_⟩⟩
  obtain ⟨goal,each,steps,last,sides,nu⟩:=nums_ex X0
  obtain ⟨e2,e19,e7,l1,le,hgo,s33,g14,g403,g63⟩:=nu.all
  have hag:=at_goal nu X0
  have hae:=at_each nu
  have hsd:decide (V.int (X / 8 % 3)=V.int 0)=sides:=by rw [dec_int,nu.sd]
  have hst:((goal:Int) - 1) / (each:Int)=(steps:Int):=by
    rw [nu.st,Int.natCast_ediv,show ((goal - 1:Nat):Int)=(goal:Int) - 1 by omega]
  have hla:(goal:Int) - (steps:Int) * (each:Int)=(last:Int):=by
    rw [hgo,Int.natCast_add,Int.natCast_mul];omega
  clear nu
  have at':∀ i:Nat,i < 8→atI (nms.map V.str) ((i:Nat):Int)=some (.str (nmA nms i)):=fun i hi=>at_nm (by omega)
  refine ⟨_,rfl,_,_,rfl,rfl,(by show (0:Int) < 6;decide),_,_,rfl,rfl,_,rfl,_,_,rfl,rfl,(by show (0:Int) < 6;decide),_,_,rfl,rfl,_,rfl,_,_,rfl,rfl,(by show (0:Int) < 30;decide),_,_,rfl,rfl,(by show 3≤sizeLine;decide),?_⟩
  intro z1 hp_;generalize hX_:upd _ z1 _=H2;have s2:=sT hp_ hX_;have f2:=fL hX_;clear hX_ hp_
  refine ⟨_,rfl,_,_,rfl,rfl,⟨by decide,by decide⟩,_,_,rfl,rfl,(by show (0:Int) < 3;decide),z1,_,_,_,rfl,rfl,SqL.of f2,hag,?_⟩
  refine ⟨_,rfl,_,_,rfl,rfl,⟨by decide,by decide⟩,_,_,rfl,rfl,(by show (0:Int) < 3;decide),rfl,?_⟩
  dsimp only
  rw [hsd]
  refine ⟨_,rfl,_,_,rfl,rfl,⟨by decide,by decide⟩,_,_,rfl,rfl,(by show (0:Int) < 6;decide),_,_,rfl,rfl,_,rfl,_,_,rfl,rfl,⟨by decide,by decide⟩,_,_,rfl,rfl,(by show (0:Int) < 8;decide),_,_,rfl,rfl,(by show 2≤sizeLine;decide),?_⟩
  intro z2 hp_;generalize hX_:upd _ z2 _=H3;have s3:=sT hp_ hX_;have f3:=fL hX_;clear hX_ hp_
  refine ⟨_,rfl,.inr ⟨sides,rfl,z2,_,_,_,rfl,rfl,SqL.of f3,hae,?_⟩⟩
  refine ⟨_,rfl,_,_,rfl,rfl,_,rfl,_,_,rfl,rfl,⟨by show (0:Int) < each;omega,by show (each:Int) < 1073741824;omega⟩,?_⟩
  dsimp only
  rw [hst]
  refine ⟨_,rfl,_,rfl,_,rfl,_,_,rfl,rfl,.inl ⟨by omega,by omega⟩,_,_,rfl,rfl,?_⟩
  dsimp only
  rw [hla]
  have g13:=g1.trans (s2.trans s3)
  have hN3:=(s2.trans s3).seq hN1
  clear hN1 hln f2 f3 hag hae hsd hst hla g1 s2 s3
  refine ⟨_,rfl,_,rfl,a,ns,2,rfl,by decide,g13.seq hS,fun c2=>⟨_,rfl,fun ad=>⟨_,rfl,_,rfl,_,rfl,ln,nms,ad,sides,each,last,rfl,hN3,h8,by omega,by omega,l1,by omega,fun lb vb vf H4 s4 hlb xb xf=>?_⟩⟩⟩
  refine ⟨lb,_,rfl,SqL.of hlb,rfl,_,_,rfl,_,_,rfl,rfl,?_⟩
  have hN4:=s4.seq hN3
  have g14':=g13.trans s4
  have ne12:=nm_ne h8 hnd (i:=1) (j:=2) (by decide) (by decide) (by decide)
  refine ⟨_,rfl,ln,_,_,_,rfl,rfl,hN4,at' 1 (by decide),(by show 0≤sizeLine;decide),?_⟩
  intro q1 hp_;generalize hX_:upd _ q1 _=HI;have sI:=sT hp_ hX_;have fI:=fT (K:=K) hX_;clear hX_ hp_
  refine ⟨(by show 2≤sizeLine;decide),?_⟩
  intro r1 hp_;generalize hX_:upd _ r1 _=HJ;have sJ:=sT hp_ hX_;have fJ:=fT (K:=K) hX_;clear hX_ hp_
  have s4J:=sI.trans sJ
  refine ⟨_,rfl,ln,_,_,_,rfl,rfl,s4J.seq hN4,at' 2 (by decide),_,rfl,ln,_,_,_,rfl,rfl,s4J.seq hN4,at' 0 (by decide),(by show 1≤sizeLine;decide),?_⟩
  intro q2 hp_;generalize hX_:upd _ q2 _=HK;have sK:=sT hp_ hX_;have fK:=fT (K:=K) hX_;clear hX_ hp_
  refine ⟨(by show 2≤sizeLine;decide),?_⟩
  intro r2 hp_;generalize hX_:upd _ r2 _=HR;have sR:=sT hp_ hX_;have fR:=fT (K:=K) hX_;clear hX_ hp_
  refine ⟨(by show 2≤sizeLine;decide),?_⟩
  intro l0 hp_;generalize hX_:upd _ l0 _=HM;have sM:=sT hp_ hX_;have fM:=fL hX_;clear hX_ hp_
  have sJM:=sK.trans (sR.trans sM)
  refine ⟨l0,[(r1,nmA nms 1,q1,[]),(r2,nmA nms 2,q2,[nmA nms 0])],rfl,SqL.of fM,fun t ht=>?_,by simpa using ne12,(by show 2 < 64;decide),fun out lr hperm hpw hlr=>?_⟩
  · simp only [List.mem_cons,List.not_mem_nil,or_false] at ht
    rcases ht with rfl | rfl
    · exact ⟨sJM.seqT fJ,sJM.seqT (sJ.seqT fI),fun x hx=>(nomatch hx)⟩
    · refine ⟨sM.seqT fR,sM.seqT (sR.seqT fK),fun x hx=>?_⟩
      have:x=nmA nms 0:=by simpa using hx
      rw [this];exact hok _ (nm_in h8 (by decide))
  generalize hX:upd _ lr _=HN
  have sN:=sT hlr hX
  have fN:=fL hX
  clear hX
  have rAt:∀ t ∈ out,RowAt K HN t:=fun t ht=>by
    have ht':=hperm.subset ht
    simp only [List.mem_cons,List.not_mem_nil,or_false] at ht'
    rcases ht' with rfl | rfl
    · exact ⟨sN.seqT (sJM.seqT fJ),sN.seqT (sJM.seqT (sJ.seqT fI))⟩
    · exact ⟨sN.seqT (sM.seqT fR),sN.seqT (sM.seqT (sR.seqT fK))⟩
  have sGN:=s4J.trans (sJM.trans sN)
  have two:Two (nmA nms 0) (nmA nms 1) (nmA nms 2) (bareF sides (nmA nms 3) ad last) (fullF sides (nmA nms 4) ad each) out (rl26 (nmA nms 1) (nmA nms 2) (bareF sides (nmA nms 3) ad last) (fullF sides (nmA nms 4) ad each)):=two_rl hperm hpw ne12
  have hNN:=sGN.seq hN4
  have hSN:=(g14'.trans sGN).seq hS
  have gHN:=g14'.trans sGN
  have xbN:=TmV.mono (fun _ _ h=>sGN.seqT h) xb
  have xfN:=TmV.mono (fun _ _ h=>sGN.seqT h) xf
  clear fI fJ fK fR fM sI sJ sK sR sM s4J sJM hpw xb xf hN4 hN3 hlb hlr hperm g13 g14' s4 sN sGN
  have tn:Tn (nmA nms 0) (nmA nms 1) (nmA nms 2) (bareF sides (nmA nms 3) ad last) (fullF sides (nmA nms 4) ad each) out (rl26 (nmA nms 1) (nmA nms 2) (bareF sides (nmA nms 3) ad last) (fullF sides (nmA nms 4) ad each)) :=
    ⟨two,ne12,cls_bareF,(fun c hc=>by rw [cls_fullF] at hc;simpa using hc),lv_bareF l1 (by omega) (fun z=>by have:=e7 z;omega),lv_fullF (by omega) (by omega) e7,(by obtain ⟨k,hk⟩:=lab_bareF (sides:=sides) (n3:=nmA nms 3) (a:=ad) (last:=last);rw [hk];rfl),(by obtain ⟨k,hk⟩:=lab_fullF (sides:=sides) (n4:=nmA nms 4) (a:=ad) (each:=each);rw [hk];rfl)⟩
  generalize hbe:bareF sides (nmA nms 3) ad last=bare at two tn xbN
  generalize hfu:fullF sides (nmA nms 4) ad each=full at two tn xfN
  refine ⟨_,rfl,_,rfl,(by show 2≤sizeLine;decide),fun lu0 hlu0=>?_⟩
  have s5:=same_new hlu0 (.lst [vb,vf])
  refine ⟨fun σ' H'=>∃ (lu:Addr) (rvs:List V),σ'=[some (.ref a),some (.ref ln),some (.int X),some (.int (goal:Int)),some (.bl sides),some (.int (each:Int)),some (.int (steps:Int)),some (.int (last:Int)),some vb,some vf,some (.ref lr),some (.ref lu),none,none,none,none,none,none,none,none]∧Same HN H'∧H' lu=some (.lst rvs)∧TmAll K H' rvs (rl26 (nmA nms 1) (nmA nms 2) bare full),?_,?_⟩
  · have gU:=s5.seq hNN
    refine ⟨_,rfl,ln,_,_,_,rfl,rfl,gU,at' 2 (by decide),_,rfl,ln,_,_,_,rfl,rfl,gU,at' 1 (by decide),_,_,rfl,rfl,_,rfl,ite2 (fun cc=>?_) (fun cc=>?_)⟩
    · have cc':(nmA nms 2).cps.toList < (nmA nms 1).cps.toList:=of_decide_eq_true cc
      refine ⟨_,rfl,_,rfl,(by show 2≤sizeLine;decide),fun lu2 hlu2=>?_⟩
      have s6:=same_new hlu2 (.lst [vf,vb])
      refine ⟨lu2,_,rfl,s5.trans s6,upd_same,?_⟩
      unfold rl26
      rw [if_pos cc']
      exact .cons (TmV.mono (fun _ _ h=>s6.seqT (s5.seqT h)) xfN) (.cons (TmV.mono (fun _ _ h=>s6.seqT (s5.seqT h)) xbN) .nil)
    · have cc':¬ (nmA nms 2).cps.toList < (nmA nms 1).cps.toList:=fun z=>cc (decide_eq_true z)
      refine ⟨lu0,_,rfl,s5,upd_same,?_⟩
      unfold rl26
      rw [if_neg cc']
      exact .cons (TmV.mono (fun _ _ h=>s5.seqT h) xbN) (.cons (TmV.mono (fun _ _ h=>s5.seqT h) xfN) .nil)
  rintro σ H6 ⟨lu,rvs,rfl,s6,fu,hrv⟩
  clear s5 hlu0
  refine ⟨_,rfl,ln,_,_,_,rfl,rfl,s6.seq hNN,at' 0 (by decide),_,rfl,(by show 2≤sizeLine;decide),?_⟩
  intro ka hp_;generalize hX_:upd _ ka _=H7;have s7:=sT hp_ hX_;have f7:=fT (K:=K) hX_;clear hX_ hp_
  refine ⟨(by show 1≤sizeLine;decide),?_⟩
  intro wd hp_;generalize hX_:upd _ wd _=H8;have s8:=sT hp_ hX_;have f8:=fL hX_;clear hX_ hp_
  refine ⟨(by show 3≤sizeLine;decide),?_⟩
  intro sv hp_;generalize hX_:upd _ sv _=H9;have s9:=sT hp_ hX_;have f9:=fT (K:=K) hX_;clear hX_ hp_
  have s69:=s7.trans (s8.trans s9)
  refine ⟨_,rfl,ln,_,_,_,rfl,rfl,(s6.trans s69).seq hNN,at' 0 (by decide),_,rfl,(by show 2≤sizeLine;decide),?_⟩
  intro ma hp_;generalize hX_:upd _ ma _=HA;have sA:=sT hp_ hX_;have fA:=fT (K:=K) hX_;clear hX_ hp_
  refine ⟨(by show 1≤sizeLine;decide),?_⟩
  intro lm hp_;generalize hX_:upd _ lm _=HB;have sB:=sT hp_ hX_;have fB:=fL hX_;clear hX_ hp_
  refine ⟨(by show 3≤sizeLine;decide),?_⟩
  intro tu hp_;generalize hX_:upd _ tu _=HC;have sC:=sT hp_ hX_;have fC:=fT (K:=K) hX_;clear hX_ hp_
  have s9C:=sA.trans (sB.trans sC)
  have s6C:=s69.trans s9C
  have sNC:=s6.trans s6C
  have hT:TurnAt K HC tu wd lm (.ref sv) [(ma,nmA nms 0,lu,rvs,rl26 (nmA nms 1) (nmA nms 2) bare full)] (Tw ka lr (nmA nms 0) out (rl26 (nmA nms 1) (nmA nms 2) bare full)):=by
    refine ⟨fC,⟨SqL.of (s9C _ _ (s9 _ _ f8)),fun k hk=>?_⟩,⟨SqL.of (sC _ _ fB),fun m hm=>?_⟩,.call (s9C.seqT f9)⟩
    · have:k=(ka,nmA nms 0,lr,out):=by simpa using hk
      subst this
      exact ⟨s9C.seqT (s9.seqT (s8.seqT f7)),SqL.of (sNC _ _ fN),fun t ht=>(rAt t ht).same sNC⟩
    · have:m=(ma,nmA nms 0,lu,rvs,rl26 (nmA nms 1) (nmA nms 2) bare full):=by simpa using hm
      subst this
      exact ⟨sC.seqT (sB.seqT fA),SqL.of (s6C _ _ fu),TmAll.mono (fun _ _ h=>s6C.seqT h) hrv⟩
  have hO:TurnOk [(ma,nmA nms 0,lu,rvs,rl26 (nmA nms 1) (nmA nms 2) bare full)] (Tw ka lr (nmA nms 0) out (rl26 (nmA nms 1) (nmA nms 2) bare full)):=⟨two.wood ne12 (hok _ (nm_in h8 (by decide))) (hok _ (nm_in h8 (by decide))) (hok _ (nm_in h8 (by decide))),rfl,tn.ok,⟨_,rfl,rfl⟩⟩
  have hNC:=sNC.seq hNN
  have hSC:=sNC.seq hSN
  have gHC:=gHN.trans sNC
  have xbC:=TmV.mono (fun _ _ h=>sNC.seqT h) xbN
  have xfC:=TmV.mono (fun _ _ h=>sNC.seqT h) xfN
  clear f7 f8 f9 fA fB fC s7 s8 s9 sA sB sC s9C s69 s6C s6 fu hrv hNN hSN gHN xbN xfN rAt fN sNC
  refine ⟨_,rfl,a,ns,3,rfl,by decide,hSC,fun c3=>⟨_,rfl,fun m0=>?_⟩⟩
  refine ⟨_,rfl,ln,_,_,_,rfl,rfl,hNC,at' 1 (by decide),_,rfl,(by show 0≤sizeLine;decide),?_⟩
  intro e0 hp_;generalize hX_:upd _ e0 _=HD;have sD:=sT hp_ hX_;have fD:=fT (K:=K) hX_;clear hX_ hp_
  refine ⟨(by show 3≤sizeLine;decide),?_⟩
  intro tr0 hp_;generalize hX_:upd _ tr0 _=HE;have sE:=sT hp_ hX_;have fE:=fT (K:=K) hX_;clear hX_ hp_
  have sCE:=sD.trans sE
  refine ⟨_,rfl,_,rfl,vb,bare,m0,.non,dT,rfl,TmV.mono (fun _ _ h=>sCE.seqT h) xbC,tn.lb.1,tn.lb.2,fun z=>absurd tn.b0 z,fun dv0 HF sF xF=>?_⟩
  refine ⟨_,rfl,(steps:Int),rfl,by omega,by omega,?_⟩
  refine for_range (lo:=0) (n:=steps) (fun i σ H'=>∃ (mk:Nat→Int) (m:Int) (tr:Addr) (dv:V) (c16:Option V),m=mk i∧σ=[some (.ref a),some (.ref ln),some (.int X),some (.int (goal:Int)),some (.bl sides),some (.int (each:Int)),some (.int (steps:Int)),some (.int (last:Int)),some vb,some vf,some (.ref lr),some (.ref lu),some (.ref tu),some (.int m),some (.ref tr),some dv,c16,none,none,none]∧Same HC H'∧TrV K H' (.ref tr) (ch (nmA nms 1) (nmA nms 2) mk i)∧TrV K H' dv (och opR dT bare full mk i))
    ⟨fun _=>m0,m0,tr0,dv0,none,rfl,rfl,sCE.trans sF,.mk (sF.seqT fE) (sF.seqT (sE.seqT fD)) .nil (by decide),xF⟩ ?_ ?_
  · rintro i σ HG hi ⟨mk,m,tr,dv,c16,rfl,rfl,gG,htr,hdv⟩
    refine ⟨_,rfl,_,rfl,_,_,rfl,rfl,a,ns,4 + (0 + (i:Int)),rfl,(by omega),gG.seq hSC,fun c4=>⟨_,rfl,fun x=>?_⟩⟩
    refine ⟨_,rfl,ln,_,_,_,rfl,rfl,gG.seq hNC,at' 2 (by decide),_,rfl,_,rfl,(by show 1≤sizeLine;decide),?_⟩
    intro e2 hp_;generalize hX_:upd _ e2 _=HI;have sI:=sT hp_ hX_;have fI:=fT (K:=K) hX_;clear hX_ hp_
    refine ⟨(by show 3≤sizeLine;decide),?_⟩
    intro tr2 hp_;generalize hX_:upd _ tr2 _=HJ;have sJ:=sT hp_ hX_;have fJ:=fT (K:=K) hX_;clear hX_ hp_
    have sGJ:=sI.trans sJ
    refine ⟨_,rfl,_,rfl,_,rfl,vf,full,x,dv,och opR dT bare full mk i,rfl,TmV.mono (fun _ _ h=>(gG.trans sGJ).seqT h) xfC,tn.lf.1,tn.lf.2,fun _=>TrV.mono (fun _ _ h=>sGJ.seqT h) hdv,fun dv2 HK sK xK=>?_⟩
    have sGK:=sGJ.trans sK
    refine ⟨pM mk (i + 1) x,x,tr2,dv2,_,pM_at.symm,rfl,gG.trans sGK,?_,?_⟩
    · rw [ch_put]
      exact .mk (sK.seqT fJ) (sK.seqT (sJ.seqT fI)) (.cons (TrV.mono (fun _ _ h=>sGK.seqT h) htr) .nil) (by show 1≤1000;decide)
    · rw [och_put];exact xK
  rintro σ HG ⟨mk,m,tr,dv,c16,_,rfl,gG,htr,hdv⟩
  clear fD fE sD sE sCE sF xF
  have htl:sides=true→(steps:Int)+1 + (if decide ((1:Int) < (last:Int))=true then 1 else 0)=((tl sides each last steps:Nat):Int):=fun z=>by
    unfold tl
    rw [if_pos z]
    by_cases h:1 < last
    · rw [if_pos h,if_pos (decide_eq_true (by omega))];omega
    · rw [if_neg h,if_neg (by simpa using (show ¬ (1:Int) < (last:Int) by omega))];omega
  have htf:sides=false→(goal:Int)=((tl sides each last steps:Nat):Int):=fun z=>by
    unfold tl
    rw [if_neg (by rw [z];decide),← hgo]
  refine ⟨_,rfl,?_⟩
  refine ⟨fun σ' H'=>∃ td:Int,σ'=[some (.ref a),some (.ref ln),some (.int X),some (.int (goal:Int)),some (.bl sides),some (.int (each:Int)),some (.int (steps:Int)),some (.int (last:Int)),some vb,some vf,some (.ref lr),some (.ref lu),some (.ref tu),some (.int m),some (.ref tr),some dv,c16,some (.int td),none,none]∧td=((tl sides each last steps:Nat):Int)∧HG=H',?_,?_⟩
  · refine ⟨_,rfl,_,rfl,ite2 (fun z=>?_) (fun z=>?_)⟩
    · exact ⟨_,rfl,_,_,rfl,rfl,_,rfl,_,_,rfl,rfl,.inr ⟨_,rfl,_,_,rfl,rfl,_,rfl,htl z,rfl⟩⟩
    · exact ⟨_,rfl,htf (by simpa using z),rfl⟩
  rintro σ _ ⟨td,rfl,htd,rfl⟩
  have gHG:=gHC.trans gG
  have hTG:=hT.same gG
  have hNG:=gG.seq hNC
  have xbG:=TmV.mono (fun _ _ h=>gG.seqT h) xbC
  have htb:Tb3 T1 T2 T3 HG:=⟨.inl (gHG _ _ t1),.inl (gHG _ _ t2),.inl (gHG _ _ t3)⟩
  have ne3:Ne3 T1 T2 T3:=⟨d12,d13,d23⟩
  have rep:=(hLN _ (nm_in h8 (i:=0) (by decide))).rep
  have lv40:lv (ch (nmA nms 1) (nmA nms 2) mk steps)≤40:=by rw [lv_ch];omega
  have o3:=hok _ (nm_in h8 (i:=3) (by decide))
  have o4:=hok _ (nm_in h8 (i:=4) (by decide))
  have oM:∀ (mk:Nat→Int) (k:Nat),och opM 0 bare full mk k=last + k * each:=fun mk k=>by rw [← hbe,← hfu];exact many_och l1 (by omega) k
  have oT:∀ (mk:Nat→Int) (k:Nat),och opT 0 bare full mk k=tl sides each last k:=fun mk k=>by rw [← hbe,← hfu];exact tall_och l1 (by omega) k
  have oN:∀ (mk:Nat→Int) (k:Nat),NmT (och opR dT bare full mk k):=fun mk k=>by rw [← hbe,← hfu];exact lay_och o3 o4 k
  have oS:∀ (mk:Nat→Int) (k:Nat),k≤steps→sz (och opR dT bare full mk k)≤1000:=fun mk k hk=>by
    rw [sz_och tn.b0,oM]
    have:k * each≤steps * each:=Nat.mul_le_mul_right _ hk
    omega
  generalize hTT:Tw ka lr (nmA nms 0) out (rl26 (nmA nms 1) (nmA nms 2) bare full)=T at hTG hO
  have eS:T.start=leaf 0 0:=by rw [← hTT]
  have ek:T.k0=nmA nms 0:=by rw [← hTT]
  have l1':lv T.start≤8:=by rw [eS];simp [lv,lvs,leaf]
  have z1':sz T.start≤100:=by rw [eS];simp [sz,szs,leaf]
  have bd:TBd T:=by rw [← hTT];exact tn.bd
  have isC:∀ (mk:Nat→Int) (k:Nat),isT (rowK T.ks) (ch (nmA nms 1) (nmA nms 2) mk k) (nmA nms 0)=true:=fun mk k=>by rw [← hTT];exact is_ch tn k
  have vA:∀ {α:Type} (op:Lab→Int→List α→α) (d:α) (mk:Nat→Int) (k:Nat),valT op d T (leaf 0 0) (upT (ch (nmA nms 1) (nmA nms 2) mk k))=och op d bare full mk k:=fun op d mk k=>by rw [val_call,← hTT];exact out_ch tn k
  have cmo:come T.ks T.ms (leaf 0 0,upT (ch (nmA nms 1) (nmA nms 2) mk steps))=(if steps=0 then bare else full,ch (nmA nms 1) (nmA nms 2) mk steps):=by rw [← hTT];exact come_ch tn (by omega)
  have fit:Fits T (leaf 0 0) (ch (nmA nms 1) (nmA nms 2) mk steps) ↔ goal≤400∧tl sides each last steps≤60:=by
    show valT opM 0 T (leaf 0 0) _≤400∧valT opT 0 T (leaf 0 0) _≤60 ↔ _
    rw [vA,vA,oM,oT,← hgo]
  clear hT
  generalize hmo:[(ma,nmA nms 0,lu,rvs,rl26 (nmA nms 1) (nmA nms 2) bare full)]=mo at hTG hO
  have ml:mo.length≤10:=by rw [← hmo];show 1≤10;decide
  obtain ⟨md,hmd,emd⟩ : ∃ md,mo[0]?=some md∧md.2.1=nmA nms 0:=⟨_,by rw [← hmo];rfl,rfl⟩
  clear hmo
  have rN:∃ rm rts,och opR dT bare full mk steps=.node (if steps=0 then nmA nms 3 else nmA nms 4) rm rts:=by rw [← hbe,← hfu];exact root_och
  have lN:lblN ((if steps=0 then bare else full),ch (nmA nms 1) (nmA nms 2) mk steps)=if steps=0 then nmA nms 3 else nmA nms 4:=by
    unfold lblN
    by_cases h:steps=0
    · rw [if_pos h,if_pos h]
      obtain ⟨k,hk⟩:=lab_bareF (sides:=sides) (n3:=nmA nms 3) (a:=ad) (last:=last)
      rw [hbe] at hk
      dsimp only
      rw [hk]
    · rw [if_neg h,if_neg h]
      obtain ⟨k,hk⟩:=lab_fullF (sides:=sides) (n4:=nmA nms 4) (a:=ad) (each:=each)
      rw [hfu] at hk
      dsimp only
      rw [hk]
  obtain ⟨rm,rts,hro⟩:=rN
  generalize ht:ch (nmA nms 1) (nmA nms 2) mk steps=t at htr lv40 cmo fit lN
  have ist:isT (rowK T.ks) t (nmA nms 0)=true:=by rw [← ht];exact isC mk steps
  have vM:valT opM 0 T T.start (upT t)=goal:=by rw [eS,← ht,vA,oM,← hgo]
  have vT:valT opT 0 T T.start (upT t)=tl sides each last steps:=by rw [eS,← ht,vA,oT]
  have vR:madeT T (leaf 0 0) t=och opR dT bare full mk steps:=by rw [← ht];exact vA _ _ _ _
  have nm':=oN mk steps
  have sz':=oS mk steps (Nat.le_refl _)
  generalize och opR dT bare full mk steps=dt at hdv hro vR nm' sz'
  refine ⟨_,rfl,_,rfl,tu,wd,lm,.ref sv,mo,T,.ref tr,t,rfl,hTG,hO,bd,ml,l1',z1',htr,lv40,(by rw [ek];exact ist),htb.m,fun HI gI kI=>?_⟩
  obtain ⟨tbI,xI⟩:=htb.byM ne3 gI kI
  have iI:Mo K HG HI:=htb.mo xI
  rw [vM]
  refine ⟨_,rfl,rfl,_,rfl,iteNS rfl ?_⟩
  refine ⟨_,rfl,_,rfl,tu,wd,lm,.ref sv,mo,T,.ref tr,t,rfl,iI.turn hTG,hO,bd,ml,l1',z1',htr.mono iI.t,lv40,(by rw [ek];exact ist),tbI.t,fun HJ gJ kJ=>?_⟩
  obtain ⟨tbJ,xJ'⟩:=tbI.byT ne3 gJ kJ
  have xJ:=xI.trans xJ'
  have iJ:Mo K HG HJ:=htb.mo xJ
  rw [vT]
  refine ⟨_,rfl,rfl,_,rfl,iteNS (by rw [htd]) ?_⟩
  have hdv':=hdv
  rw [hro] at hdv'
  cases hdv' with
  | @mk da db dvs _ _ _ d1 d2 d3 d4 =>
  refine ⟨_,rfl,_,rfl,(by show 0≤sizeLine;decide),?_⟩
  intro pe hp_;generalize hX_:upd _ pe _=HK;have sK:=sT hp_ hX_;have fK:=fT (K:=K) hX_;clear hX_ hp_
  have iK:=iJ.trans (Mo.of (K:=K) sK)
  have cm':come T.ks T.ms (T.start,upT t)=(if steps=0 then bare else full,t):=by rw [eS];exact cmo
  refine ⟨tu,wd,lm,.ref sv,mo,T,.ref tr,t,pe,[],rfl,iK.turn hTG,hO,htr.mono iK.t,(by rw [ek];exact ist),lv40,fK,fun z=>(by cases z),fun x hx p HL gL hp=>?_⟩
  have hx':come T.ks T.ms (T.start,upT t)=x:=Option.some.inj hx
  rw [cm'] at hx'
  subst hx'
  rw [lN] at hp
  have xL:=xJ.trans (SX3.of (sK.trans gL))
  have tbL:=tbJ.same (sK.trans gL)
  have iL:Mo K HG HL:=htb.mo xL
  refine ⟨p,_,0,_,rfl,rfl,SqT.of hp,rfl,_,rfl,da,_,0,_,rfl,rfl,iL.t _ _ d1,rfl,rfl,_,rfl,iteNS rfl ?_⟩
  clear hx hp d1 d2 d3 d4 iI iJ iK iL gI kI gJ kJ xI xJ' xJ tbI tbJ sK gL fK hro lN cm' cmo
  refine ⟨2,rfl,by decide,by decide,?_⟩
  refine for_range (lo:=0) (n:=2) (fun i σ H'=>∃ (c18 c19:Option V),σ=[some (.ref a),some (.ref ln),some (.int X),some (.int (goal:Int)),some (.bl sides),some (.int (each:Int)),some (.int (steps:Int)),some (.int (last:Int)),some vb,some vf,some (.ref lr),some (.ref lu),some (.ref tu),some (.int m),some (.ref tr),some (.ref da),c16,some (.int td),c18,c19]∧SX3 T1 T2 T3 HG H'∧Tb3 T1 T2 T3 H')
    ⟨none,none,rfl,xL,tbL⟩ ?_ ?_
  · rintro i σ HM hi ⟨c18,c19,rfl,xM,tbM⟩
    have iM:Mo K HG HM:=htb.mo xM
    refine ⟨fun σ' H'=>∃ fv:V,σ'=[some (.ref a),some (.ref ln),some (.int X),some (.int (goal:Int)),some (.bl sides),some (.int (each:Int)),some (.int (steps:Int)),some (.int (last:Int)),some vb,some vf,some (.ref lr),some (.ref lu),some (.ref tu),some (.int m),some (.ref tr),some (.ref da),c16,some (.int td),some (.int (0 + (i:Int))),some fv]∧SX3 T1 T2 T3 HG H'∧Tb3 T1 T2 T3 H'∧((goal≤400∧tl sides each last steps≤60)∧TrV K H' fv dt∨¬ (goal≤400∧tl sides each last steps≤60)∧∃ l,fv=.ref l∧H' l=some (.lst [.bl true])),?_,?_⟩
    · refine ⟨_,rfl,_,rfl,_,rfl,tu,wd,lm,.ref sv,mo,T,.ref tr,t,md,0 + (i:Int),rfl,⟨iM.turn hTG,hO,bd,ml,htr.mono iM.t,lv40⟩,l1',z1',(by rw [ek];exact rep),hmd,(by rw [emd];exact rep),(by rw [ek];exact ist),(by rw [emd];exact ist),eS,tbM,fun hf v' H2 x2 tb2 tv=>?_,fun nf l H2 x2 tb2 hl=>?_⟩
      · rw [vR] at tv
        exact ⟨v',rfl,xM.trans x2,tb2,.inl ⟨fit.mp hf,tv⟩⟩
      · exact ⟨_,rfl,xM.trans x2,tb2,.inr ⟨fun z=>nf (fit.mpr z),l,rfl,hl⟩⟩
    rintro σ HO ⟨fv,rfl,xO,tbO,⟨⟨hf1,hf2⟩,tv⟩ | ⟨nf,l,rfl,hl⟩⟩
    · have iO:Mo K HG HO:=htb.mo xO
      refine ⟨_,rfl,_,_,rfl,rfl,_,rfl,iteN (by omega) ⟨_,rfl,_,_,rfl,rfl,_,rfl,iteN (by rw [htd];omega) ?_⟩⟩
      refine ⟨_,rfl,_,rfl,fv,.ref da,dt,rfl,tv,hdv.mono iO.t,nm',sz',fun H3 g3=>⟨_,rfl,iteF ?_⟩⟩
      exact ⟨_,_,rfl,xO.trans (SX3.of g3),tbO.same g3⟩
    · have lay:(PyData.list [.bool true]).canLay0=true:=by decide +kernel
      by_cases hg:goal≤400
      · refine ⟨_,rfl,_,_,rfl,rfl,_,rfl,iteN (by omega) ⟨_,rfl,_,_,rfl,rfl,_,rfl,iteP (by rw [htd];omega) ?_⟩⟩
        refine ⟨_,rfl,(by show 1≤sizeLine;decide),fun lz hlz=>?_⟩
        have gz:=same_new hlz (.lst [.bl true])
        refine ⟨.list [.bool true],.list [.bool true],.lst (SqL.of (gz _ _ hl)) (.cons (.bl true) .nil),.lst (SqL.of upd_same) (.cons (.bl true) .nil),lay,lay,room _ (Nat.le_trans (Nat.min_le_left _ _) (by simp [PyData.depth,PyData.depthAll])),_,rfl,?_⟩
        rw [if_pos rfl,eqv_self _ lay]
        exact iteF ⟨_,_,rfl,xO.trans (SX3.of gz),tbO.same gz⟩
      · refine ⟨_,rfl,_,_,rfl,rfl,_,rfl,iteP (by omega) ?_⟩
        refine ⟨_,rfl,(by show 1≤sizeLine;decide),fun lz hlz=>?_⟩
        have gz:=same_new hlz (.lst [.bl true])
        refine ⟨.list [.bool true],.list [.bool true],.lst (SqL.of (gz _ _ hl)) (.cons (.bl true) .nil),.lst (SqL.of upd_same) (.cons (.bl true) .nil),lay,lay,room _ (Nat.le_trans (Nat.min_le_left _ _) (by simp [PyData.depth,PyData.depthAll])),_,rfl,?_⟩
        rw [if_pos rfl,eqv_self _ lay]
        exact iteF ⟨_,_,rfl,xO.trans (SX3.of gz),tbO.same gz⟩
  rintro σ HM ⟨c18,c19,rfl,xM,tbM⟩
  have iM:Mo K HG HM:=htb.mo xM
  refine ⟨_,rfl,_,rfl,ln,_,_,_,rfl,rfl,iM.l _ _ hNG,at' 1 (by decide),_,rfl,(by show 0≤sizeLine;decide),?_⟩
  intro eN hp_;generalize hX_:upd _ eN _=HN;have sN:=sT hp_ hX_;have fN:=fT (K:=K) hX_;clear hX_ hp_
  refine ⟨(by show 3≤sizeLine;decide),?_⟩
  intro tO hp_;generalize hX_:upd _ tO _=HO;have sO:=sT hp_ hX_;have fO:=fT (K:=K) hX_;clear hX_ hp_
  have sNO:=sN.trans sO
  have t5:TrV K HO (.ref tO) (ch (nmA nms 1) (nmA nms 2) (fun _=>m) 0):=.mk fO (sO.seqT fN) .nil (by decide)
  have fit5:Fits T (leaf 0 0) (ch (nmA nms 1) (nmA nms 2) (fun _=>m) 0):=by
    show valT opM 0 T (leaf 0 0) _≤400∧valT opT 0 T (leaf 0 0) _≤60
    rw [vA,vA,oM,oT,Nat.zero_mul]
    refine ⟨by omega,?_⟩
    unfold tl
    rw [Nat.zero_mul]
    split
    · split <;> omega
    · omega
  refine ⟨tu,wd,lm,.ref sv,mo,T,.ref tO,ch (nmA nms 1) (nmA nms 2) (fun _=>m) 0,md,0,rfl,⟨(iM.turn hTG).same sNO,hO,bd,ml,t5,by rw [lv_ch];omega⟩,l1',z1',(by rw [ek];exact rep),hmd,(by rw [emd];exact rep),(by rw [ek];exact isC _ 0),(by rw [emd];exact isC _ 0),eS,tbM.same sNO,fun _ v' H2 x2 tb2 tv=>?_,fun nf=>absurd fit5 nf⟩
  have tv':TrV K H2 v' (och opR dT bare full (fun _=>m) 0):=(vA opR dT (fun _=>m) 0) ▸ tv
  have iP:Mo K HG H2:=htb.mo (xM.trans ((SX3.of sNO).trans x2))
  refine ⟨_,rfl,_,rfl,vb,bare,m,.non,dT,rfl,TmV.mono (fun _ _ h=>iP.t _ _ h) xbG,tn.lb.1,tn.lb.2,fun z=>absurd tn.b0 z,fun dv2 H3 s3 x3=>?_⟩
  exact ⟨v',dv2,och opR dT bare full (fun _=>m) 0,rfl,tv'.mono fun _ _=>s3.seqT,x3,oN _ _,oS _ 0 (Nat.zero_le _),fun H4 g4=>q _⟩
end
end K26
namespace L2
theorem ln1 {α:Type} {us:List α} (h:us.length=1):∃ a,us=[a]:=List.length_eq_one_iff.mp h
theorem ln2 {α:Type} {us:List α} (h:us.length=2):∃ a b,us=[a,b]:=by
  match us,h with
  | [a,b],_=>exact ⟨a,b,rfl⟩
theorem ln3 {α:Type} {us:List α} (h:us.length=3):∃ a b c,us=[a,b,c]:=by
  match us,h with
  | [a,b,c],_=>exact ⟨a,b,c,rfl⟩
theorem ln4 {α:Type} {us:List α} (h:us.length=4):∃ a b c d,us=[a,b,c,d]:=by
  match us,h with
  | [a,b,c,d],_=>exact ⟨a,b,c,d,rfl⟩
theorem ln5 {α:Type} {us:List α} (h:us.length=5):∃ a b c d e,us=[a,b,c,d,e]:=by
  match us,h with
  | [a,b,c,d,e],_=>exact ⟨a,b,c,d,e,rfl⟩
end L2
namespace K26
open PySem L2
theorem all_mk {c1 T1:Addr} {c2 T2:Addr} {c3 T3:Addr} {l:PySem.W.OpenLaw} {w:World} {K:PySem.W.Frag} {h:Heap} {mg:Str→Option Value} {fa:Addr} (X:K.In h) (N:h.Ns mainGlobals mg) (hfa:mg "law" = some (.ref fa))
    (d1:DefAt K "is_call" sIsC) (d2:DefAt K "calls_of" sCO) (d3:DefAt K "mark_put" sMP) (d4:DefAt K "put_head" sPH) (d5:DefAt K "has_number" sHN) (d6:DefAt K "rows_of" sRowsOf) (d7:DefAt K "row_of" sRowOf) (d8:DefAt K "is_of" sIsOf) (d9:DefAt K "need_of" sNeedOf) (d10:DefAt K "need_in" sNeedIn) (d11:DefAt K "rule_of" sRule) (d12:DefAt K "outcome" sOut) (d13:DefAt K "above" sAbove) (d14:DefAt K "reckoned" sReck) (d15:DefAt K "called_below" sCalB) (d16:DefAt K "filled" sFill) (d17:DefAt K "many" sMany) (d18:DefAt K "tall" sTall) (d19:DefAt K "many_by" sManyBy) (d20:DefAt K "tall_by" sTallBy) (d21:DefAt K "seen" sSeen) (d22:DefAt K "seen_by" sSeenBy) (d23:DefAt K "first_put" sFirst) (d24:DefAt K "turned" sTurned) (d25:DefAt K "turned_in" sTurnedIn) (d26:DefAt K "turned_by" sTurnedBy) (d27:DefAt K "_law_cell_at" sCell) (d28:DefAt K "_law_mixed" sMixed) (d29:DefAt K "_law_names" sNames) (d30:DefAt K "_law_great" sGreat) (d31:DefAt K "_law_whole" sWhole) (d32:DefAt K "_law_wide" sWide) (d33:DefAt K "_law_deep" sDeep) (d34:DefAt K "_law_kept" sKept) (d35:DefAt K "_law_put" sPutF) (d36:DefAt K "_law_walk" sWalk) (d37:DefAt K "_law_answer" sAnswer) (d38:DefAt K "_law_rules" sRulesF) (d39:DefAt K "law" sLaw)
    (z1:PySem.W.nsIn K mainGlobals "len" = some none) (z2:PySem.W.nsIn K mainGlobals "isinstance" = some none) (z3:PySem.W.nsIn K mainGlobals "int" = some none) (z4:PySem.W.nsIn K mainGlobals "bool" = some none) (z5:PySem.W.nsIn K mainGlobals "str" = some none) (z6:PySem.W.nsIn K mainGlobals "tuple" = some none) (z7:PySem.W.nsIn K mainGlobals "list" = some none) (z8:PySem.W.nsIn K mainGlobals "range" = some none) (z9:PySem.W.nsIn K mainGlobals "zip" = some none) (z10:PySem.W.nsIn K mainGlobals "dict" = some none) (z11:PySem.W.nsIn K mainGlobals "all" = some none) (z12:PySem.W.nsIn K mainGlobals "sorted" = some none) (z13:PySem.W.nsIn K mainGlobals "reversed" = some none) (z14:PySem.W.nsIn K mainGlobals "sum" = some none) (z15:PySem.W.nsIn K mainGlobals "max" = some none) (y1:PySem.W.nsIn K mainGlobals "ValueError" = some none)  (ht1:PySem.W.tabIn K "many_by" = some (c1,T1)) (hh1:PySem.W.codeHdIn K c1 T1=true) (ht2:PySem.W.tabIn K "tall_by" = some (c2,T2)) (hh2:PySem.W.codeHdIn K c2 T2=true) (ht3:PySem.W.tabIn K "turned_by" = some (c3,T3)) (hh3:PySem.W.codeHdIn K c3 T3=true) (ne12:T1≠T2) (ne13:T1≠T3) (ne23:T2≠T3) {CN CG CT:Addr} {tk1 tk2:Tok} (gN:PySem.W.nsIn K mainGlobals "NoTree" = some (some (.ref CN))) (gG:PySem.W.nsIn K mainGlobals "TooGreat" = some (some (.ref CG))) (qN:PySem.W.excIn K CN mroV "ValueError.__new__" = true) (qG:PySem.W.excIn K CG mroV "ValueError.__new__" = true) (kG:PySem.W.ktsIn K CG "BaseException" = true) (gT:PySem.W.nsIn K mainGlobals "TurnError" = some (some (.ref CT))) (i1:PySem.W.kitOne K (.ref CG) (.ref CT)=some true) (i2:PySem.W.kitOne K (.ref CG) (.type "ValueError")=some true) (i3:PySem.W.kitOne K (.ref CG) (.ref CN)=some false) (e1:PySem.W.findIn K (.ref CG) "__getattribute__" = some (some (.builtin "BaseException.__getattribute__"))) (e2:PySem.W.findIn K (.ref CG) "__getattr__" = some none) (e3:PySem.W.findIn K (.ref CG) "__class__" = some (some (.builtin "object.__class__"))) (e4:PySem.W.mroIn K CG (.type "BaseException")=some true) (e5:PySem.W.mroIn K CG (.type "object")=some true) (g4:PySem.W.nsIn K mainGlobals "MOST_NAMES" = some (some (.int 400 tk1))) (g6:PySem.W.nsIn K mainGlobals "MOST_LEVELS" = some (some (.int 60 tk2))) :
    ∃ fd:FuncData,(∀ (s:Shared) (v:Value),BindsTo s fd ⟨[v],[]⟩ [("_law_script", v)])∧∀ base:Heap,K.In base→base.Ns mainGlobals mg→BtAt mg base→FnOk l.prog w K mg base CX0 59 fa fd ["_law_script"] (spLaw K T1 T2 T3):=by
  have G:Gm mg:=⟨PySem.W.mg_none_of X N z1,PySem.W.mg_none_of X N z2,PySem.W.mg_none_of X N z3,PySem.W.mg_none_of X N z4,PySem.W.mg_none_of X N z5,PySem.W.mg_none_of X N z6,PySem.W.mg_none_of X N z7,PySem.W.mg_none_of X N z8,PySem.W.mg_none_of X N z9,PySem.W.mg_none_of X N z10,PySem.W.mg_none_of X N z11,PySem.W.mg_none_of X N z12,PySem.W.mg_none_of X N z13,PySem.W.mg_none_of X N z14,PySem.W.mg_none_of X N z15⟩
  obtain ⟨f,oc,od,kV,doc,pm,an,cdv,ct,osl,a,lk,c,kp⟩:=d39.ex
  have e:=hfa.symm.trans (PySem.W.mg_of X N a)
  cases e
  have F:=fun_mk (st:=sLaw) lk c kp
  refine ⟨PySem.W.fnOf "law" "law" (defArgs sLaw) (defBody sLaw) (defScope sLaw) .none kV doc pm an cdv ct,fun s v=>.of_eq rfl,fun base _ _ hB=>?_⟩
  have hve:mg "ValueError" = none:=PySem.W.mg_none_of X N y1
  have r1:Fn l.prog w K mg base 1 "is_call" ["term"] (spIsC K):=d1.fn X N (fun f fd F=>ok_isC F) fun _ _ _ _ _ _ us hl=>by obtain ⟨a1,rfl⟩:=ln1 hl;rfl
  have r8:Fn l.prog w K mg base 1 "mark_put" ["term", "mark"] (spMP K):=d3.fn X N (fun f fd F=>ok_mp F) fun _ _ _ _ _ _ us hl=>by obtain ⟨a1,a2,rfl⟩:=ln2 hl;rfl
  have rPH:Fn l.prog w K mg base 2 "put_head" ["term", "mark"] (spPH K):=d4.fn X N (fun f fd F=>ok_ph F G r8) fun _ _ _ _ _ _ us hl=>by obtain ⟨a1,a2,rfl⟩:=ln2 hl;rfl
  have r9:Fn l.prog w K mg base 1 "has_number" ["branches", "number"] (spHN K):=d5.fn X N (fun f fd F=>ok_hn F G) fun _ _ _ _ _ _ us hl=>by obtain ⟨a1,a2,rfl⟩:=ln2 hl;rfl
  have r2:Fn l.prog w K mg base 1 "rows_of" ["wood", "kind"] (spRowsOf K):=d6.fn X N (fun f fd F=>ok_rowsOf F G) fun _ _ _ _ _ _ us hl=>by obtain ⟨a1,a2,rfl⟩:=ln2 hl;rfl
  have r3:Fn l.prog w K mg base 2 "row_of" ["wood", "kind", "name"] (spRowOf K):=d7.fn X N (fun f fd F=>ok_rowOf F G r2) fun _ _ _ _ _ _ us hl=>by obtain ⟨a1,a2,a3,rfl⟩:=ln3 hl;rfl
  have r4:Fn l.prog w K mg base 42 "is_of" ["wood", "kind", "tree"] (spIsOf K 40):=by
    obtain ⟨f,oc,od,kV,doc,pm,an,cdv,ct,osl,a,lk,c,kp⟩:=d8.ex
    have F:=fun_mk (st:=sIsOf) lk c kp
    have hb:Binds K _ ["wood", "kind", "tree"] []:=F.binds fun _ _ _ _ _ _ us hl=>by obtain ⟨a1,a2,a3,rfl⟩:=ln3 hl;rfl
    exact ⟨f,_,all_isOf F G r3 hb (PySem.W.mg_of X N a) 40,hb,kp,PySem.W.mg_of X N a⟩
  have r5:Fn l.prog w K mg base 2 "rule_of" ["turning", "mode", "name"] (spRule K):=d11.fn X N (fun f fd F=>ok_rule F G r2) fun _ _ _ _ _ _ us hl=>by obtain ⟨a1,a2,a3,rfl⟩:=ln3 hl;rfl
  have r7:Fn l.prog w K mg base 1 "_law_whole" ["_law_found"] spWhole:=d31.fn X N (fun f fd F=>ok_whole F G) fun _ _ _ _ _ _ us hl=>by obtain ⟨a1,rfl⟩:=ln1 hl;rfl
  have r10:Fn l.prog w K mg base 43 "need_of" ["wood", "kind", "tree"] (spNeedOf K):=d9.fn X N (fun f fd F=>ok_needOf F r4) fun _ _ _ _ _ _ us hl=>by obtain ⟨a1,a2,a3,rfl⟩:=ln3 hl;rfl
  have r11:Fn l.prog w K mg base 44 "need_in" ["wood", "tree"] (spNeedIn K):=d10.fn X N (fun f fd F=>ok_needIn F r10) fun _ _ _ _ _ _ us hl=>by obtain ⟨a1,a2,rfl⟩:=ln2 hl;rfl
  have r12:Fn l.prog w K mg base 1 "above" ["tree"] (spAbove K):=d13.fn X N (fun f fd F=>ok_above F) fun _ _ _ _ _ _ us hl=>by obtain ⟨a1,rfl⟩:=ln1 hl;rfl
  have r13:Fn l.prog w K mg base 3 "first_put" ["turning", "term", "tree"] (spFirst K):=d23.fn X N (fun f fd F=>ok_first F r1 r5) fun _ _ _ _ _ _ us hl=>by obtain ⟨a1,a2,a3,rfl⟩:=ln3 hl;rfl
  have r14:Fn l.prog w K mg base 4 "seen_by" ["turning", "term", "tree", "place"] (spSeenBy K):=d22.fn X N (fun f fd F=>ok_seenBy F G r13 r12 r9 rPH) fun _ _ _ _ _ _ us hl=>by obtain ⟨a1,a2,a3,a4,rfl⟩:=ln4 hl;rfl
  have r15:Fn l.prog w K mg base 45 "seen" ["turning", "tree", "place"] (spSeen K):=d21.fn X N (fun f fd F=>ok_seen F r11 r14) fun _ _ _ _ _ _ us hl=>by obtain ⟨a1,a2,a3,rfl⟩:=ln3 hl;rfl
  have r6:Fn l.prog w K mg base 1 "_law_cell_at" ["_law_script", "_law_k"] (spCell K):=d27.fn X N (fun f fd F=>ok_cell F G) fun _ _ _ _ _ _ us hl=>by obtain ⟨a1,a2,rfl⟩:=ln2 hl;rfl
  have r17:Fn l.prog w K mg base 1 "_law_mixed" ["_law_cell", "_law_k"] spMixed:=d28.fn X N (fun f fd F=>ok_mixed F) fun _ _ _ _ _ _ us hl=>by obtain ⟨a1,a2,rfl⟩:=ln2 hl;rfl
  have r18:Fn l.prog w K mg base 1 "_law_great" ["_law_cell"] spGreat:=d30.fn X N (fun f fd F=>ok_great F) fun _ _ _ _ _ _ us hl=>by obtain ⟨a1,rfl⟩:=ln1 hl;rfl
  have r24:Fn l.prog w K mg base 2 "_law_names" ["_law_cell"] (spNames K):=d29.fn X N (fun f fd F=>ok_names F G r17) fun _ _ _ _ _ _ us hl=>by obtain ⟨a1,rfl⟩:=ln1 hl;rfl
  have c1:Fn l.prog w K mg base 9 "calls_of" ["term"] (spCO K 8):=by
    obtain ⟨f,oc,od,kV,doc,pm,an,cdv,ct,osl,a,lk,c,kp⟩:=d2.ex
    have F:=fun_mk (st:=sCO) lk c kp
    have hb:Binds K _ ["term"] []:=F.binds fun _ _ _ _ _ _ us hl=>by obtain ⟨a1,rfl⟩:=ln1 hl;rfl
    exact ⟨f,_,all_co F G r1 hb (PySem.W.mg_of X N a) 8,hb,kp,PySem.W.mg_of X N a⟩
  have c2:Fn l.prog w K mg base 10 "called_below" ["turning", "rules", "tree"] (spCB K):=d15.fn X N (fun f fd F=>ok_cb F G c1 r5) fun _ _ _ _ _ _ us hl=>by obtain ⟨a1,a2,a3,rfl⟩:=ln3 hl;rfl
  have fM:Fn l.prog w K mg base 11 "filled" ["term", "mark", "below", "make"] (spFill K eM RN opM 8):=by
    obtain ⟨f,oc,od,kV,doc,pm,an,cdv,ct,osl,a,lk,c,kp⟩:=d16.ex
    have F:=fun_mk (st:=sFill) lk c kp
    have hb:Binds K _ ["term", "mark", "below", "make"] []:=F.binds fun _ _ _ _ _ _ us hl=>by obtain ⟨a1,a2,a3,a4,rfl⟩:=ln4 hl;rfl
    exact ⟨f,_,all_fill rep_N F G r1 (lam_many G) hb (PySem.W.mg_of X N a) 8,hb,kp,PySem.W.mg_of X N a⟩
  have kM:Fn l.prog w K mg base 53 "reckoned" ["turning", "rules", "tree", "make"] (spReck K eM RN opM 0 41):=by
    obtain ⟨f,oc,od,kV,doc,pm,an,cdv,ct,osl,a,lk,c,kp⟩:=d14.ex
    have F:=fun_mk (st:=sReck) lk c kp
    have hb:Binds K _ ["turning", "rules", "tree", "make"] []:=F.binds fun _ _ _ _ _ _ us hl=>by obtain ⟨a1,a2,a3,a4,rfl⟩:=ln4 hl;rfl
    exact ⟨f,_,all_reck rep_N F G c2 fM hb (PySem.W.mg_of X N a) 41,hb,kp,PySem.W.mg_of X N a⟩
  have oM:Fn l.prog w K mg base 54 "outcome" ["turning", "term", "tree", "make"] (spOut K eM RN opM 0):=d12.fn X N (fun f fd F=>ok_out F r12 kM) fun _ _ _ _ _ _ us hl=>by obtain ⟨a1,a2,a3,a4,rfl⟩:=ln4 hl;rfl
  have fT:Fn l.prog w K mg base 11 "filled" ["term", "mark", "below", "make"] (spFill K eT RN opT 8):=by
    obtain ⟨f,oc,od,kV,doc,pm,an,cdv,ct,osl,a,lk,c,kp⟩:=d16.ex
    have F:=fun_mk (st:=sFill) lk c kp
    have hb:Binds K _ ["term", "mark", "below", "make"] []:=F.binds fun _ _ _ _ _ _ us hl=>by obtain ⟨a1,a2,a3,a4,rfl⟩:=ln4 hl;rfl
    exact ⟨f,_,all_fill rep_N F G r1 (lam_tall G) hb (PySem.W.mg_of X N a) 8,hb,kp,PySem.W.mg_of X N a⟩
  have kT:Fn l.prog w K mg base 53 "reckoned" ["turning", "rules", "tree", "make"] (spReck K eT RN opT 0 41):=by
    obtain ⟨f,oc,od,kV,doc,pm,an,cdv,ct,osl,a,lk,c,kp⟩:=d14.ex
    have F:=fun_mk (st:=sReck) lk c kp
    have hb:Binds K _ ["turning", "rules", "tree", "make"] []:=F.binds fun _ _ _ _ _ _ us hl=>by obtain ⟨a1,a2,a3,a4,rfl⟩:=ln4 hl;rfl
    exact ⟨f,_,all_reck rep_N F G c2 fT hb (PySem.W.mg_of X N a) 41,hb,kp,PySem.W.mg_of X N a⟩
  have oT:Fn l.prog w K mg base 54 "outcome" ["turning", "term", "tree", "make"] (spOut K eT RN opT 0):=d12.fn X N (fun f fd F=>ok_out F r12 kT) fun _ _ _ _ _ _ us hl=>by obtain ⟨a1,a2,a3,a4,rfl⟩:=ln4 hl;rfl
  have fR:Fn l.prog w K mg base 11 "filled" ["term", "mark", "below", "make"] (spFill K eR (RT K) opR 8):=by
    obtain ⟨f,oc,od,kV,doc,pm,an,cdv,ct,osl,a,lk,c,kp⟩:=d16.ex
    have F:=fun_mk (st:=sFill) lk c kp
    have hb:Binds K _ ["term", "mark", "below", "make"] []:=F.binds fun _ _ _ _ _ _ us hl=>by obtain ⟨a1,a2,a3,a4,rfl⟩:=ln4 hl;rfl
    exact ⟨f,_,all_fill rep_T F G r1 (lam_made G r8) hb (PySem.W.mg_of X N a) 8,hb,kp,PySem.W.mg_of X N a⟩
  have kR:Fn l.prog w K mg base 53 "reckoned" ["turning", "rules", "tree", "make"] (spReck K eR (RT K) opR (.node (S []) 0 []) 41):=by
    obtain ⟨f,oc,od,kV,doc,pm,an,cdv,ct,osl,a,lk,c,kp⟩:=d14.ex
    have F:=fun_mk (st:=sReck) lk c kp
    have hb:Binds K _ ["turning", "rules", "tree", "make"] []:=F.binds fun _ _ _ _ _ _ us hl=>by obtain ⟨a1,a2,a3,a4,rfl⟩:=ln4 hl;rfl
    exact ⟨f,_,all_reck rep_T F G c2 fR hb (PySem.W.mg_of X N a) 41,hb,kp,PySem.W.mg_of X N a⟩
  have oR:Fn l.prog w K mg base 54 "outcome" ["turning", "term", "tree", "make"] (spOut K eR (RT K) opR (.node (S []) 0 [])):=d12.fn X N (fun f fd F=>ok_out F r12 kR) fun _ _ _ _ _ _ us hl=>by obtain ⟨a1,a2,a3,a4,rfl⟩:=ln4 hl;rfl
  have bM:Fn l.prog w K mg base 55 "many_by" ["turning", "term", "tree"] (spBy K T1 eM qM opM):=by
    obtain ⟨f,oc,od,kV,doc,pm,an,cdv,ct,osl,a,lk,c,kp⟩:=d19.ex
    have F:=fun_mk (st:=sManyBy) lk c kp
    have hb:Binds K _ ["turning", "term", "tree"] []:=F.binds fun _ _ _ _ _ _ us hl=>by obtain ⟨a1,a2,a3,rfl⟩:=ln3 hl;rfl
    exact ⟨f,_,ok_manyBy F a ht1 hh1 hB oM,hb,kp,PySem.W.mg_of X N a⟩
  have bT:Fn l.prog w K mg base 55 "tall_by" ["turning", "term", "tree"] (spBy K T2 eT qT opT):=by
    obtain ⟨f,oc,od,kV,doc,pm,an,cdv,ct,osl,a,lk,c,kp⟩:=d20.ex
    have F:=fun_mk (st:=sTallBy) lk c kp
    have hb:Binds K _ ["turning", "term", "tree"] []:=F.binds fun _ _ _ _ _ _ us hl=>by obtain ⟨a1,a2,a3,rfl⟩:=ln3 hl;rfl
    exact ⟨f,_,ok_tallBy F a ht2 hh2 hB oT,hb,kp,PySem.W.mg_of X N a⟩
  have tM:Fn l.prog w K mg base 56 "many" ["turning", "tree"] (spTell K T1 eM qM opM):=d17.fn X N (fun f fd F=>ok_many F r11 bM) fun _ _ _ _ _ _ us hl=>by obtain ⟨a1,a2,rfl⟩:=ln2 hl;rfl
  have tT:Fn l.prog w K mg base 56 "tall" ["turning", "tree"] (spTell K T2 eT qT opT):=d18.fn X N (fun f fd F=>ok_tall F r11 bT) fun _ _ _ _ _ _ us hl=>by obtain ⟨a1,a2,rfl⟩:=ln2 hl;rfl
  have x1:FnX l.prog w K mg base 43 "need_of" ["wood", "kind", "tree"] (spNOX K CN):=by
    obtain ⟨f,oc,od,kV,doc,pm,an,cdv,ct,osl,a,lk,c,kp⟩:=d9.ex
    have F:=fun_mk (st:=sNeedOf) lk c kp
    have hb:Binds K _ ["wood", "kind", "tree"] []:=F.binds fun _ _ _ _ _ _ us hl=>by obtain ⟨a1,a2,a3,rfl⟩:=ln3 hl;rfl
    exact ⟨⟨f,_,ok_nox F (PySem.W.mg_of X N gN) qN PySem.F.excBase_ValueError (by decide) r4,hb,kp,PySem.W.mg_of X N a⟩⟩
  have x2:FnX l.prog w K mg base 44 "need_in" ["wood", "tree"] (spNIX K CN):=by
    obtain ⟨f,oc,od,kV,doc,pm,an,cdv,ct,osl,a,lk,c,kp⟩:=d10.ex
    have F:=fun_mk (st:=sNeedIn) lk c kp
    have hb:Binds K _ ["wood", "tree"] []:=F.binds fun _ _ _ _ _ _ us hl=>by obtain ⟨a1,a2,rfl⟩:=ln2 hl;rfl
    exact ⟨⟨f,_,ok_nix F x1,hb,kp,PySem.W.mg_of X N a⟩⟩
  have x3:FnX l.prog w K mg base 56 "turned_by" ["turning", "term", "tree"] (spTBy K CG T1 T2 T3):=by
    obtain ⟨f,oc,od,kV,doc,pm,an,cdv,ct,osl,a,lk,c,kp⟩:=d26.ex
    have F:=fun_mk (st:=sTurnedBy) lk c kp
    have hb:Binds K _ ["turning", "term", "tree"] []:=F.binds fun _ _ _ _ _ _ us hl=>by obtain ⟨a1,a2,a3,rfl⟩:=ln3 hl;rfl
    exact ⟨⟨f,_,ok_tby F a ht3 hh3 hB (PySem.W.mg_of X N g4) (PySem.W.mg_of X N g6) (PySem.W.mg_of X N gG) qG PySem.F.excBase_ValueError (by decide) ⟨ne12,ne13,ne23⟩ bM bT oR,hb,kp,PySem.W.mg_of X N a⟩⟩
  have x4:FnX l.prog w K mg base 57 "turned" ["turning", "tree"] (spTd K CN CG T1 T2 T3):=by
    obtain ⟨f,oc,od,kV,doc,pm,an,cdv,ct,osl,a,lk,c,kp⟩:=d24.ex
    have F:=fun_mk (st:=sTurned) lk c kp
    have hb:Binds K _ ["turning", "tree"] []:=F.binds fun _ _ _ _ _ _ us hl=>by obtain ⟨a1,a2,rfl⟩:=ln2 hl;rfl
    exact ⟨⟨f,_,ok_td F x2 x3,hb,kp,PySem.W.mg_of X N a⟩⟩
  have x5:FnX l.prog w K mg base 57 "turned_in" ["turning", "mode", "tree"] (spTdIn K CN CG T1 T2 T3):=by
    obtain ⟨f,oc,od,kV,doc,pm,an,cdv,ct,osl,a,lk,c,kp⟩:=d25.ex
    have F:=fun_mk (st:=sTurnedIn) lk c kp
    have hb:Binds K _ ["turning", "mode", "tree"] []:=F.binds fun _ _ _ _ _ _ us hl=>by obtain ⟨a1,a2,a3,rfl⟩:=ln3 hl;rfl
    exact ⟨⟨f,_,ok_tdIn F x1 x3,hb,kp,PySem.W.mg_of X N a⟩⟩
  have dW:Fn l.prog w K mg base 1 "_law_wide" ["_law_name", "_law_add", "_law_count", "_law_inner"] (spWide K):=d32.fn X N (fun f fd F=>ok_wide F G) fun _ _ _ _ _ _ us hl=>by obtain ⟨a1,a2,a3,a4,rfl⟩:=ln4 hl;rfl
  have dD:Fn l.prog w K mg base 1 "_law_deep" ["_law_name", "_law_add", "_law_count", "_law_inner"] (spDeep K):=d33.fn X N (fun f fd F=>ok_deep F G) fun _ _ _ _ _ _ us hl=>by obtain ⟨a1,a2,a3,a4,rfl⟩:=ln4 hl;rfl
  have dK:Fn l.prog w K mg base 1 "_law_kept" ["_law_term", "_law_mark"] (spKept K):=d34.fn X N (fun f fd F=>ok_kept F G) fun _ _ _ _ _ _ us hl=>by obtain ⟨a1,a2,rfl⟩:=ln2 hl;rfl
  have dP:Fn l.prog w K mg base 9 "_law_put" ["_law_term", "_law_mark", "_law_below"] (spPut K 8):=by
    obtain ⟨f,oc,od,kV,doc,pm,an,cdv,ct,osl,a,lk,c,kp⟩:=d35.ex
    have F:=fun_mk (st:=sPutF) lk c kp
    have hb:Binds K _ ["_law_term", "_law_mark", "_law_below"] []:=F.binds fun _ _ _ _ _ _ us hl=>by obtain ⟨a1,a2,a3,rfl⟩:=ln3 hl;rfl
    exact ⟨f,_,all_put F G dK hb (PySem.W.mg_of X N a) 8,hb,kp,PySem.W.mg_of X N a⟩
  have dV:Fn l.prog w K mg base 2 "_law_walk" ["_law_found", "_law_due"] (spWalk K):=d36.fn X N (fun f fd F=>ok_walk F G r7) fun _ _ _ _ _ _ us hl=>by obtain ⟨a1,a2,rfl⟩:=ln2 hl;rfl
  have dR:Fn l.prog w K mg base 2 "_law_rules" ["_law_names_here", "_law_add", "_law_sides", "_law_each", "_law_last"] (spRules K):=d38.fn X N (fun f fd F=>ok_rulesF F dW dD) fun _ _ _ _ _ _ us hl=>by obtain ⟨a1,a2,a3,a4,a5,rfl⟩:=ln5 hl;rfl
  have dA:Fn l.prog w K mg base 58 "_law_answer" ["_law_turning", "_law_tree", "_law_ask"] (spAns K T1 T2 T3):=d37.fn X N (fun f fd F=>ok_ans F G hve (PySem.W.mg_of X N gN) (PySem.W.mg_of X N gG) (PySem.W.mg_of X N gT) kG ⟨e1,e2,e3,e4,e5⟩ i1 i2 i3 x4 x5) fun _ _ _ _ _ _ us hl=>by obtain ⟨a1,a2,a3,rfl⟩:=ln3 hl;rfl
  exact ok_law F G r6 r17 r24 r18 dR dP dV dA tM tT r15
theorem walk {c1 T1:Addr} {c2 T2:Addr} {c3 T3:Addr} {l:PySem.W.OpenLaw} {q:Program} {loose:List Str} {XP:(Str→Option Value)→Heap→Prop} {YP:World→Heap→Prop} {d:DefRec} {K:Params→PySem.W.Frag} (hn:l.most=some 63) (hdf:d.params.defaults=[])
    (hY:∀ (w:World) (h:Heap),YP w h→(K w.params).In h) (tb1:∀ w:World,TabAt q (K w.params) "many_by" c1 T1) (tb2:∀ w:World,TabAt q (K w.params) "tall_by" c2 T2) (tb3:∀ w:World,TabAt q (K w.params) "turned_by" c3 T3) (ne12:T1≠T2) (ne13:T1≠T3) (ne23:T2≠T3)
    (F:∀ (w:World) (mg:Str→Option Value) (fa:Addr) (h:Heap),(K w.params).In h→h.Ns mainGlobals mg→mg d.name=some (.ref fa) →
      ∃ fd:FuncData,(∀ (s:Shared) (u:Value),BindsTo s fd ⟨[u],[]⟩ [("_law_script", u)])∧∀ base:Heap,(K w.params).In base→base.Ns mainGlobals mg→BtAt mg base→FnOk l.prog w (K w.params) mg base CX0 59 fa fd ["_law_script"] (spLaw (K w.params) T1 T2 T3)) :
    PySem.W.WalkO q loose XP YP l.row.toRowW d [] (fun f vs=>PySem.call f vs) :=
  L2.walk_ofT (n:=63) (k:=59) (x:="_law_script") (tabs:=[("many_by", c1,T1),("tall_by", c2,T2),("turned_by", c3,T3)]) (sp:=fun w=>spLaw (K w.params) T1 T2 T3) hn (by decide) hdf ⟨rfl,by decide,by decide⟩ hY (fun w p hp=>by
    simp only [List.mem_cons,List.not_mem_nil,or_false] at hp
    rcases hp with rfl | rfl | rfl
    · exact tb1 w
    · exact tb2 w
    · exact tb3 w) F (fun _ _ a ns hl hS hT=>⟨a,ns,rfl,hS,hl,ne12,ne13,ne23,hT ("many_by", c1,T1) (by simp),hT ("tall_by", c2,T2) (by simp),hT ("turned_by", c3,T3) (by simp),fun _=>rfl⟩)
end K26
section
open PySem
noncomputable def K26.vS (x:String) (n:Nat):Value:=.str (Str.ofString x) n
noncomputable def K26.vR (a:Nat):Value:=.ref a
noncomputable def K26.vI (i:Int) (n:Nat):Value:=.int i n
noncomputable def K26.hE (P:Params) (x:String) (n:Nat) (v:Value):DictEntry:=⟨PyData.keyHash P (Str.ofString x),.str (Str.ofString x) n,v⟩
noncomputable def K26.vN:Value:=.none
noncomputable def K26.vF:Value:=.type "function"
noncomputable def K26.vT:Value:=.bool true
noncomputable def K26.i0:Value:=.int 0 0
noncomputable def K26.i3:Value:=.int 3 0
noncomputable def K26.i1:Value:=.int 181 0
noncomputable def K26.cP (k:Nat):Value:=.str (Str.ofString "/claim/cut.py") k
noncomputable def K26.oT (x:Array Value):Obj:=Obj.mk (Value.type "tuple") none (Data.seq x) #[]
noncomputable def K26.oC (x:Array Value):Obj:=Obj.mk (Value.type "code") none (Data.fields x) #[]
noncomputable def K26.oF (c:Value) (x y:String) (s:Stmt) (k:Nat) (pm cd:Value):Obj:=Obj.mk c none (Data.func (FuncData.mk (Str.ofString x) (Str.ofString y) (L2.defArgs s) (.stmts (L2.defBody s)) (L2.defScope s) k [] Value.none Value.none Value.none pm none cd Value.none 0)) #[]
open K26
noncomputable def K26.oE:Obj:={ cls:=vN,data:=Data.fields #[] }
noncomputable def K26.x3 (P:Params):Obj:=Obj.mk (Value.type "dict") none (Data.dict #[hE P "__name__" 165 (vS "law_turnery_k26_outcomes_too_great" 479),hE P "__doc__" 166 vN,hE P "__package__" 167 vN,hE P "__loader__" 168 (Value.builtin "__main__.__loader__#opaque"),hE P "__spec__" 169 vN,hE P "__annotations__" 170 (vR 6),hE P "__builtins__" 171 (vR 4),hE P "__file__" 173 (cP 172),hE P "__cached__" 174 vN,hE P "is_call" 195 (vR 21),hE P "calls_of" 204 (vR 28),hE P "mark_put" 212 (vR 35),hE P "put_head" 220 (vR 42),hE P "TurnError" 240 (vR 52),hE P "NoTree" 256 (vR 65),hE P "TooGreat" 272 (vR 77),hE P "has_number" 282 (vR 86),hE P "rows_of" 292 (vR 93),hE P "row_of" 301 (vR 100),hE P "is_of" 307 (vR 105),hE P "need_of" 316 (vR 112),hE P "need_in" 324 (vR 119),hE P "rule_of" 339 (vR 126),hE P "outcome" 351 (vR 133),hE P "above" 358 (vR 140),hE P "reckoned" 364 (vR 145),hE P "called_below" 370 (vR 150),hE P "filled" 376 (vR 155),hE P "many" 386 (vR 162),hE P "tall" 394 (vR 169),hE P "many_by" 403 (vR 176),hE P "tall_by" 412 (vR 183),hE P "seen" 421 (vR 190),hE P "seen_by" 434 (vR 197),hE P "first_put" 446 (vR 204),hE P "MOST_NAMES" 450 (vI 400 449),hE P "MOST_LEVELS" 452 (vI 60 451),hE P "turned" 460 (vR 211),hE P "turned_in" 469 (vR 218),hE P "turned_by" 478 (vR 225),hE P "_law_cell_at" 488 (vR 232),hE P "_law_mixed" 497 (vR 239),hE P "_law_names" 503 (vR 244),hE P "_law_great" 510 (vR 251),hE P "_law_whole" 517 (vR 258),hE P "_law_wide" 523 (vR 263),hE P "_law_deep" 535 (vR 270),hE P "_law_kept" 543 (vR 277),hE P "_law_put" 549 (vR 282),hE P "_law_walk" 560 (vR 289),hE P "_law_answer" 570 (vR 296),hE P "_law_rules" 582 (vR 303),hE P "law" 608 (vR 310)] 53) #[]
noncomputable def K26.x20 (P:Params):Obj:=oC #[vS "is_call" 189,vS "is_call" 190,cP 191,vI 2 0,vI 1 0,i0,i0,i3,vR 15,vT,i1,vR 16,vN,vR 17,vR 18,vR 19,vI 193 0,vI 2 0,cP 194]
noncomputable def K26.x21 (P:Params):Obj:=oF vF "is_call" "is_call" (top 1) 3 (vS "turnery.terms" 187) (vR 20)
noncomputable def K26.x24 (P:Params):Obj:=oT #[vS "term" 199,vS "told" 200,vS "part" 201]
noncomputable def K26.x27 (P:Params):Obj:=oC #[vS "calls_of" 196,vS "calls_of" 197,cP 198,vI 4 0,vI 1 0,i0,i0,i3,vR 22,vT,i1,vR 23,vN,vR 24,vR 25,vR 26,vI 202 0,vI 4 0,cP 203]
noncomputable def K26.x28 (P:Params):Obj:=oF vF "calls_of" "calls_of" (top 2) 3 (vS "turnery.terms" 187) (vR 27)
noncomputable def K26.x34 (P:Params):Obj:=oC #[vS "mark_put" 205,vS "mark_put" 206,cP 207,vI 11 0,vI 2 0,i0,i0,i3,vR 29,vT,i1,vR 30,vN,vR 31,vR 32,vR 33,vI 210 0,vI 11 0,cP 211]
noncomputable def K26.x35 (P:Params):Obj:=oF vF "mark_put" "mark_put" (top 3) 3 (vS "turnery.terms" 187) (vR 34)
noncomputable def K26.x41 (P:Params):Obj:=oC #[vS "put_head" 213,vS "put_head" 214,cP 215,vI 13 0,vI 2 0,i0,i0,i3,vR 36,vT,i1,vR 37,vN,vR 38,vR 39,vR 40,vI 218 0,vI 13 0,cP 219]
noncomputable def K26.x42 (P:Params):Obj:=oF vF "put_head" "put_head" (top 4) 3 (vS "turnery.terms" 187) (vR 41)
noncomputable def K26.x51 (P:Params):Obj:=Obj.mk (Value.type "dict") none (Data.dict #[hE P "__module__" 230 (vS "turnery.errors" 221),hE P "__firstlineno__" 234 (vI 16 233),hE P "__static_attributes__" 235 (vR 50),hE P "__weakref__" 237 (vR 53),hE P "__doc__" 238 vN] 3) #[]
noncomputable def K26.x52 (P:Params):Obj:=Obj.mk (Value.type "type") none (Data.cls (ClassData.mk (Str.ofString "TurnError") [Value.type "ValueError"] [vR 52,Value.type "ValueError", Value.type "Exception", Value.type "BaseException", Value.type "object"] 51 (Str.ofString "TurnError") true [] [vR 65,vR 77] false none false)) #[some (vR 43),none,some (vS "TurnError" 223),some (vS "TurnError" 231),some (Value.builtin "ValueError.__new__"),some (Value.bool true)]
noncomputable def K26.x53 (P:Params):Obj:=Obj.mk (Value.type "getset_descriptor") none (Data.fields #[vS "__weakref__" 236,vR 52,Value.builtin "ExceptionGroup.__weakref__", vN]) #[]
noncomputable def K26.x64 (P:Params):Obj:=Obj.mk (Value.type "dict") none (Data.dict #[hE P "__module__" 248 (vS "turnery.errors" 221),hE P "__firstlineno__" 252 (vI 18 251),hE P "__static_attributes__" 253 (vR 63),hE P "__doc__" 254 vN] 2) #[]
noncomputable def K26.x65 (P:Params):Obj:=Obj.mk (Value.type "type") none (Data.cls (ClassData.mk (Str.ofString "NoTree") [vR 52] [vR 65,vR 52,Value.type "ValueError", Value.type "Exception", Value.type "BaseException", Value.type "object"] 64 (Str.ofString "NoTree") true [] [] false none false)) #[some (vR 56),none,some (vS "NoTree" 241),some (vS "NoTree" 249),some (Value.builtin "ValueError.__new__"),some (Value.bool true)]
noncomputable def K26.x76 (P:Params):Obj:=Obj.mk (Value.type "dict") none (Data.dict #[hE P "__module__" 264 (vS "turnery.errors" 221),hE P "__firstlineno__" 268 (vI 20 267),hE P "__static_attributes__" 269 (vR 75),hE P "__doc__" 270 vN] 2) #[]
noncomputable def K26.x77 (P:Params):Obj:=Obj.mk (Value.type "type") none (Data.cls (ClassData.mk (Str.ofString "TooGreat") [vR 52] [vR 77,vR 52,Value.type "ValueError", Value.type "Exception", Value.type "BaseException", Value.type "object"] 76 (Str.ofString "TooGreat") true [] [] false none false)) #[some (vR 68),none,some (vS "TooGreat" 257),some (vS "TooGreat" 265),some (Value.builtin "ValueError.__new__"),some (Value.bool true)]
noncomputable def K26.x85 (P:Params):Obj:=oC #[vS "has_number" 275,vS "has_number" 276,cP 277,vI 23 0,vI 2 0,i0,i0,i3,vR 80,vT,i1,vR 81,vN,vR 82,vR 83,vR 84,vI 280 0,vI 23 0,cP 281]
noncomputable def K26.x86 (P:Params):Obj:=oF vF "has_number" "has_number" (top 10) 3 (vS "turnery.trees" 273) (vR 85)
noncomputable def K26.x92 (P:Params):Obj:=oC #[vS "rows_of" 285,vS "rows_of" 286,cP 287,vI 28 0,vI 2 0,i0,i0,i3,vR 87,vT,i1,vR 88,vN,vR 89,vR 90,vR 91,vI 290 0,vI 28 0,cP 291]
noncomputable def K26.x93 (P:Params):Obj:=oF vF "rows_of" "rows_of" (top 12) 3 (vS "turnery.woods" 283) (vR 92)
noncomputable def K26.x96 (P:Params):Obj:=oT #[vS "wood" 296,vS "kind" 297,vS "name" 298]
noncomputable def K26.x99 (P:Params):Obj:=oC #[vS "row_of" 293,vS "row_of" 294,cP 295,vI 30 0,vI 3 0,i0,i0,i3,vR 94,vT,i1,vR 95,vN,vR 96,vR 97,vR 98,vI 299 0,vI 30 0,cP 300]
noncomputable def K26.x100 (P:Params):Obj:=oF vF "row_of" "row_of" (top 13) 3 (vS "turnery.woods" 283) (vR 99)
noncomputable def K26.x104 (P:Params):Obj:=oC #[vS "is_of" 302,vS "is_of" 303,cP 304,vI 32 0,vI 3 0,i0,i0,i3,vR 101,vT,i1,vR 102,vN,vN,vN,vR 103,vI 305 0,vI 32 0,cP 306]
noncomputable def K26.x105 (P:Params):Obj:=oF vF "is_of" "is_of" (top 14) 3 (vS "turnery.woods" 283) (vR 104)
noncomputable def K26.x108 (P:Params):Obj:=oT #[vS "wood" 311,vS "kind" 312,vS "tree" 313]
noncomputable def K26.x111 (P:Params):Obj:=oC #[vS "need_of" 308,vS "need_of" 309,cP 310,vI 38 0,vI 3 0,i0,i0,i3,vR 106,vT,i1,vR 107,vN,vR 108,vR 109,vR 110,vI 314 0,vI 38 0,cP 315]
noncomputable def K26.x112 (P:Params):Obj:=oF vF "need_of" "need_of" (top 15) 3 (vS "turnery.woods" 283) (vR 111)
noncomputable def K26.x118 (P:Params):Obj:=oC #[vS "need_in" 317,vS "need_in" 318,cP 319,vI 41 0,vI 2 0,i0,i0,i3,vR 113,vT,i1,vR 114,vN,vR 115,vR 116,vR 117,vI 322 0,vI 41 0,cP 323]
noncomputable def K26.x119 (P:Params):Obj:=oF vF "need_in" "need_in" (top 16) 3 (vS "turnery.woods" 283) (vR 118)
noncomputable def K26.x122 (P:Params):Obj:=oT #[vS "turning" 330,vS "mode" 331,vS "name" 332,vS "kind" 333,vS "rules" 334,vS "row" 335,vS "rule" 336]
noncomputable def K26.x125 (P:Params):Obj:=oC #[vS "rule_of" 327,vS "rule_of" 328,cP 329,vI 44 0,vI 3 0,i0,i0,i3,vR 120,vT,i1,vR 121,vN,vR 122,vR 123,vR 124,vI 337 0,vI 44 0,cP 338]
noncomputable def K26.x126 (P:Params):Obj:=oF vF "rule_of" "rule_of" (top 18) 3 (vS "turnery.turnings" 325) (vR 125)
noncomputable def K26.x129 (P:Params):Obj:=oT #[vS "turning" 345,vS "term" 346,vS "tree" 347,vS "make" 348]
noncomputable def K26.x132 (P:Params):Obj:=oC #[vS "outcome" 342,vS "outcome" 343,cP 344,vI 52 0,vI 4 0,i0,i0,i3,vR 127,vT,i1,vR 128,vN,vR 129,vR 130,vR 131,vI 349 0,vI 52 0,cP 350]
noncomputable def K26.x133 (P:Params):Obj:=oF vF "outcome" "outcome" (top 20) 3 (vS "turnery.outcomes" 340) (vR 132)
noncomputable def K26.x139 (P:Params):Obj:=oC #[vS "above" 352,vS "above" 353,cP 354,vI 54 0,vI 1 0,i0,i0,i3,vR 134,vT,i1,vR 135,vN,vR 136,vR 137,vR 138,vI 356 0,vI 54 0,cP 357]
noncomputable def K26.x140 (P:Params):Obj:=oF vF "above" "above" (top 21) 3 (vS "turnery.outcomes" 340) (vR 139)
noncomputable def K26.x144 (P:Params):Obj:=oC #[vS "reckoned" 359,vS "reckoned" 360,cP 361,vI 56 0,vI 4 0,i0,i0,i3,vR 141,vT,i1,vR 142,vN,vN,vN,vR 143,vI 362 0,vI 56 0,cP 363]
noncomputable def K26.x145 (P:Params):Obj:=oF vF "reckoned" "reckoned" (top 22) 3 (vS "turnery.outcomes" 340) (vR 144)
noncomputable def K26.x149 (P:Params):Obj:=oC #[vS "called_below" 365,vS "called_below" 366,cP 367,vI 61 0,vI 3 0,i0,i0,i3,vR 146,vT,i1,vR 147,vN,vN,vN,vR 148,vI 368 0,vI 61 0,cP 369]
noncomputable def K26.x150 (P:Params):Obj:=oF vF "called_below" "called_below" (top 23) 3 (vS "turnery.outcomes" 340) (vR 149)
noncomputable def K26.x154 (P:Params):Obj:=oC #[vS "filled" 371,vS "filled" 372,cP 373,vI 68 0,vI 4 0,i0,i0,i3,vR 151,vT,i1,vR 152,vN,vN,vN,vR 153,vI 374 0,vI 68 0,cP 375]
noncomputable def K26.x155 (P:Params):Obj:=oF vF "filled" "filled" (top 24) 3 (vS "turnery.outcomes" 340) (vR 154)
noncomputable def K26.x161 (P:Params):Obj:=oC #[vS "many" 379,vS "many" 380,cP 381,vI 73 0,vI 2 0,i0,i0,i3,vR 156,vT,i1,vR 157,vN,vR 158,vR 159,vR 160,vI 384 0,vI 73 0,cP 385]
noncomputable def K26.x162 (P:Params):Obj:=oF vF "many" "many" (top 26) 3 (vS "turnery.counting" 377) (vR 161)
noncomputable def K26.x168 (P:Params):Obj:=oC #[vS "tall" 387,vS "tall" 388,cP 389,vI 76 0,vI 2 0,i0,i0,i3,vR 163,vT,i1,vR 164,vN,vR 165,vR 166,vR 167,vI 392 0,vI 76 0,cP 393]
noncomputable def K26.x169 (P:Params):Obj:=oF vF "tall" "tall" (top 27) 3 (vS "turnery.counting" 377) (vR 168)
noncomputable def K26.x172 (P:Params):Obj:=oT #[vS "turning" 398,vS "term" 399,vS "tree" 400]
noncomputable def K26.x175 (P:Params):Obj:=oC #[vS "many_by" 395,vS "many_by" 396,cP 397,vI 79 0,vI 3 0,i0,i0,i3,vR 170,vT,i1,vR 171,vN,vR 172,vR 173,vR 174,vI 401 0,vI 79 0,cP 402]
noncomputable def K26.x176 (P:Params):Obj:=oF vF "many_by" "many_by" (top 28) 3 (vS "turnery.counting" 377) (vR 175)
noncomputable def K26.x179 (P:Params):Obj:=oT #[vS "turning" 407,vS "term" 408,vS "tree" 409]
noncomputable def K26.x182 (P:Params):Obj:=oC #[vS "tall_by" 404,vS "tall_by" 405,cP 406,vI 81 0,vI 3 0,i0,i0,i3,vR 177,vT,i1,vR 178,vN,vR 179,vR 180,vR 181,vI 410 0,vI 81 0,cP 411]
noncomputable def K26.x183 (P:Params):Obj:=oF vF "tall_by" "tall_by" (top 29) 3 (vS "turnery.counting" 377) (vR 182)
noncomputable def K26.x186 (P:Params):Obj:=oT #[vS "turning" 416,vS "tree" 417,vS "place" 418]
noncomputable def K26.x189 (P:Params):Obj:=oC #[vS "seen" 413,vS "seen" 414,cP 415,vI 83 0,vI 3 0,i0,i0,i3,vR 184,vT,i1,vR 185,vN,vR 186,vR 187,vR 188,vI 419 0,vI 83 0,cP 420]
noncomputable def K26.x190 (P:Params):Obj:=oF vF "seen" "seen" (top 30) 3 (vS "turnery.counting" 377) (vR 189)
noncomputable def K26.x193 (P:Params):Obj:=oT #[vS "turning" 425,vS "term" 426,vS "tree" 427,vS "place" 428,vS "here" 429,vS "number" 430,vS "parts" 431]
noncomputable def K26.x196 (P:Params):Obj:=oC #[vS "seen_by" 422,vS "seen_by" 423,cP 424,vI 86 0,vI 4 0,i0,i0,i3,vR 191,vT,i1,vR 192,vN,vR 193,vR 194,vR 195,vI 432 0,vI 86 0,cP 433]
noncomputable def K26.x197 (P:Params):Obj:=oF vF "seen_by" "seen_by" (top 31) 3 (vS "turnery.counting" 377) (vR 196)
noncomputable def K26.x200 (P:Params):Obj:=oT #[vS "turning" 438,vS "term" 439,vS "tree" 440,vS "rule" 441,vS "read" 442,vS "mode" 443]
noncomputable def K26.x203 (P:Params):Obj:=oC #[vS "first_put" 435,vS "first_put" 436,cP 437,vI 94 0,vI 3 0,i0,i0,i3,vR 198,vT,i1,vR 199,vN,vR 200,vR 201,vR 202,vI 444 0,vI 94 0,cP 445]
noncomputable def K26.x204 (P:Params):Obj:=oF vF "first_put" "first_put" (top 32) 3 (vS "turnery.counting" 377) (vR 203)
noncomputable def K26.x210 (P:Params):Obj:=oC #[vS "turned" 453,vS "turned" 454,cP 455,vI 105 0,vI 2 0,i0,i0,i3,vR 205,vT,i1,vR 206,vN,vR 207,vR 208,vR 209,vI 458 0,vI 105 0,cP 459]
noncomputable def K26.x211 (P:Params):Obj:=oF vF "turned" "turned" (top 36) 3 (vS "turnery.running" 447) (vR 210)
noncomputable def K26.x214 (P:Params):Obj:=oT #[vS "turning" 464,vS "mode" 465,vS "tree" 466]
noncomputable def K26.x217 (P:Params):Obj:=oC #[vS "turned_in" 461,vS "turned_in" 462,cP 463,vI 108 0,vI 3 0,i0,i0,i3,vR 212,vT,i1,vR 213,vN,vR 214,vR 215,vR 216,vI 467 0,vI 108 0,cP 468]
noncomputable def K26.x218 (P:Params):Obj:=oF vF "turned_in" "turned_in" (top 37) 3 (vS "turnery.running" 447) (vR 217)
noncomputable def K26.x221 (P:Params):Obj:=oT #[vS "turning" 473,vS "term" 474,vS "tree" 475]
noncomputable def K26.x224 (P:Params):Obj:=oC #[vS "turned_by" 470,vS "turned_by" 471,cP 472,vI 111 0,vI 3 0,i0,i0,i3,vR 219,vT,i1,vR 220,vN,vR 221,vR 222,vR 223,vI 476 0,vI 111 0,cP 477]
noncomputable def K26.x225 (P:Params):Obj:=oF vF "turned_by" "turned_by" (top 38) 3 (vS "turnery.running" 447) (vR 224)
noncomputable def K26.x228 (P:Params):Obj:=oT #[vS "_law_script" 484,vS "_law_k" 485]
noncomputable def K26.x231 (P:Params):Obj:=oC #[vS "_law_cell_at" 481,vS "_law_cell_at" 482,cP 483,vI 118 0,vI 2 0,i0,i0,i3,vR 226,vT,i1,vR 227,vN,vR 228,vR 229,vR 230,vI 486 0,vI 118 0,cP 487]
noncomputable def K26.x232 (P:Params):Obj:=oF vF "_law_cell_at" "_law_cell_at" (top 40) 3 (vS "law_turnery_k26_outcomes_too_great" 479) (vR 231)
noncomputable def K26.x235 (P:Params):Obj:=oT #[vS "_law_cell" 492,vS "_law_k" 493,vS "_law_number" 494]
noncomputable def K26.x238 (P:Params):Obj:=oC #[vS "_law_mixed" 489,vS "_law_mixed" 490,cP 491,vI 122 0,vI 2 0,i0,i0,i3,vR 233,vT,i1,vR 234,vN,vR 235,vR 236,vR 237,vI 495 0,vI 122 0,cP 496]
noncomputable def K26.x239 (P:Params):Obj:=oF vF "_law_mixed" "_law_mixed" (top 41) 3 (vS "law_turnery_k26_outcomes_too_great" 479) (vR 238)
noncomputable def K26.x243 (P:Params):Obj:=oC #[vS "_law_names" 498,vS "_law_names" 499,cP 500,vI 126 0,vI 1 0,i0,i0,i3,vR 240,vT,i1,vR 241,vN,vN,vN,vR 242,vI 501 0,vI 126 0,cP 502]
noncomputable def K26.x244 (P:Params):Obj:=oF vF "_law_names" "_law_names" (top 42) 3 (vS "law_turnery_k26_outcomes_too_great" 479) (vR 243)
noncomputable def K26.x250 (P:Params):Obj:=oC #[vS "_law_great" 504,vS "_law_great" 505,cP 506,vI 139 0,vI 1 0,i0,i0,i3,vR 245,vT,i1,vR 246,vN,vR 247,vR 248,vR 249,vI 508 0,vI 139 0,cP 509]
noncomputable def K26.x251 (P:Params):Obj:=oF vF "_law_great" "_law_great" (top 43) 3 (vS "law_turnery_k26_outcomes_too_great" 479) (vR 250)
noncomputable def K26.x257 (P:Params):Obj:=oC #[vS "_law_whole" 511,vS "_law_whole" 512,cP 513,vI 141 0,vI 1 0,i0,i0,i3,vR 252,vT,i1,vR 253,vN,vR 254,vR 255,vR 256,vI 515 0,vI 141 0,cP 516]
noncomputable def K26.x258 (P:Params):Obj:=oF vF "_law_whole" "_law_whole" (top 44) 3 (vS "law_turnery_k26_outcomes_too_great" 479) (vR 257)
noncomputable def K26.x262 (P:Params):Obj:=oC #[vS "_law_wide" 518,vS "_law_wide" 519,cP 520,vI 143 0,vI 4 0,i0,i0,i3,vR 259,vT,i1,vR 260,vN,vN,vN,vR 261,vI 521 0,vI 143 0,cP 522]
noncomputable def K26.x263 (P:Params):Obj:=oF vF "_law_wide" "_law_wide" (top 45) 3 (vS "law_turnery_k26_outcomes_too_great" 479) (vR 262)
noncomputable def K26.x266 (P:Params):Obj:=oT #[vS "_law_name" 527,vS "_law_add" 528,vS "_law_count" 529,vS "_law_inner" 530,vS "_law_term" 531,vS "_law_k" 532]
noncomputable def K26.x269 (P:Params):Obj:=oC #[vS "_law_deep" 524,vS "_law_deep" 525,cP 526,vI 145 0,vI 4 0,i0,i0,i3,vR 264,vT,i1,vR 265,vN,vR 266,vR 267,vR 268,vI 533 0,vI 145 0,cP 534]
noncomputable def K26.x270 (P:Params):Obj:=oF vF "_law_deep" "_law_deep" (top 46) 3 (vS "law_turnery_k26_outcomes_too_great" 479) (vR 269)
noncomputable def K26.x273 (P:Params):Obj:=oT #[vS "_law_term" 539,vS "_law_mark" 540]
noncomputable def K26.x276 (P:Params):Obj:=oC #[vS "_law_kept" 536,vS "_law_kept" 537,cP 538,vI 150 0,vI 2 0,i0,i0,i3,vR 271,vT,i1,vR 272,vN,vR 273,vR 274,vR 275,vI 541 0,vI 150 0,cP 542]
noncomputable def K26.x277 (P:Params):Obj:=oF vF "_law_kept" "_law_kept" (top 47) 3 (vS "law_turnery_k26_outcomes_too_great" 479) (vR 276)
noncomputable def K26.x281 (P:Params):Obj:=oC #[vS "_law_put" 544,vS "_law_put" 545,cP 546,vI 152 0,vI 3 0,i0,i0,i3,vR 278,vT,i1,vR 279,vN,vN,vN,vR 280,vI 547 0,vI 152 0,cP 548]
noncomputable def K26.x282 (P:Params):Obj:=oF vF "_law_put" "_law_put" (top 48) 3 (vS "law_turnery_k26_outcomes_too_great" 479) (vR 281)
noncomputable def K26.x285 (P:Params):Obj:=oT #[vS "_law_found" 553,vS "_law_due" 554,vS "_law_todo" 555,vS "_law_one" 556,vS "_law_other" 557]
noncomputable def K26.x288 (P:Params):Obj:=oC #[vS "_law_walk" 550,vS "_law_walk" 551,cP 552,vI 157 0,vI 2 0,i0,i0,i3,vR 283,vT,i1,vR 284,vN,vR 285,vR 286,vR 287,vI 558 0,vI 157 0,cP 559]
noncomputable def K26.x289 (P:Params):Obj:=oF vF "_law_walk" "_law_walk" (top 49) 3 (vS "law_turnery_k26_outcomes_too_great" 479) (vR 288)
noncomputable def K26.x292 (P:Params):Obj:=oT #[vS "_law_turning" 564,vS "_law_tree" 565,vS "_law_ask" 566,vS "e" 567]
noncomputable def K26.x295 (P:Params):Obj:=oC #[vS "_law_answer" 561,vS "_law_answer" 562,cP 563,vI 169 0,vI 3 0,i0,i0,i3,vR 290,vT,i1,vR 291,vN,vR 292,vR 293,vR 294,vI 568 0,vI 169 0,cP 569]
noncomputable def K26.x296 (P:Params):Obj:=oF vF "_law_answer" "_law_answer" (top 50) 3 (vS "law_turnery_k26_outcomes_too_great" 479) (vR 295)
noncomputable def K26.x299 (P:Params):Obj:=oT #[vS "_law_names_here" 574,vS "_law_add" 575,vS "_law_sides" 576,vS "_law_each" 577,vS "_law_last" 578,vS "_law_call" 579]
noncomputable def K26.x302 (P:Params):Obj:=oC #[vS "_law_rules" 571,vS "_law_rules" 572,cP 573,vI 176 0,vI 5 0,i0,i0,i3,vR 297,vT,i1,vR 298,vN,vR 299,vR 300,vR 301,vI 580 0,vI 176 0,cP 581]
noncomputable def K26.x303 (P:Params):Obj:=oF vF "_law_rules" "_law_rules" (top 51) 3 (vS "law_turnery_k26_outcomes_too_great" 479) (vR 302)
noncomputable def K26.x306 (P:Params):Obj:=oT #[vS "_law_script" 586,vS "_law_names_here" 587,vS "_law_number" 588,vS "_law_goal" 589,vS "_law_sides" 590,vS "_law_each" 591,vS "_law_steps" 592,vS "_law_last" 593,vS "_law_bare" 594,vS "_law_full" 595,vS "_law_rows" 596,vS "_law_rules_here" 597,vS "_law_turning" 598,vS "_law_mark" 599,vS "_law_tree" 600,vS "_law_due" 601,vS "_law_k" 602,vS "_law_deep_here" 603,vS "_law_ask" 604,vS "_law_found" 605]
noncomputable def K26.x309 (P:Params):Obj:=oC #[vS "law" 583,vS "law" 584,cP 585,vI 181 0,vI 1 0,i0,i0,i3,vR 304,vT,i1,vR 305,vN,vR 306,vR 307,vR 308,vI 606 0,vI 181 0,cP 607]
noncomputable def K26.x310 (P:Params):Obj:=oF vF "law" "law" (top 52) 3 (vS "law_turnery_k26_outcomes_too_great" 479) (vR 309)
noncomputable def K26.hp:Params→PySem.W.Frag:=fun P=>[(2,Obj.mk vN none (Data.dict #[]) #[]),(3,x3 P),(15,oT #[]),(17,oT #[vS "term" 192]),(18,oT #[]),(20,x20 P),(21,x21 P),(22,oT #[]),(24,x24 P),(25,oT #[]),(27,x27 P),(28,x28 P),(29,oT #[]),(31,oT #[vS "term" 208,vS "mark" 209]),(32,oT #[]),(34,x34 P),(35,x35 P),(36,oT #[]),(38,oT #[vS "term" 216,vS "mark" 217]),(39,oT #[]),(41,x41 P),(42,x42 P),(43,oT #[Value.type "ValueError"]),(50,oT #[]),(51,x51 P),(52,x52 P),(53,x53 P),(56,oT #[vR 52]),(63,oT #[]),(64,x64 P),(65,x65 P),(68,oT #[vR 52]),(75,oT #[]),(76,x76 P),(77,x77 P),(80,oT #[]),(82,oT #[vS "branches" 278,vS "number" 279]),(83,oT #[]),(85,x85 P),(86,x86 P),(87,oT #[]),(89,oT #[vS "wood" 288,vS "kind" 289]),(90,oT #[]),(92,x92 P),(93,x93 P),(94,oT #[]),(96,x96 P),(97,oT #[]),(99,x99 P),(100,x100 P),(101,oT #[]),(104,x104 P),(105,x105 P),(106,oT #[]),(108,x108 P),(109,oT #[]),(111,x111 P),(112,x112 P),(113,oT #[]),(115,oT #[vS "wood" 320,vS "tree" 321]),(116,oT #[]),(118,x118 P),(119,x119 P),(120,oT #[]),(122,x122 P),(123,oT #[]),(125,x125 P),(126,x126 P),(127,oT #[]),(129,x129 P),(130,oT #[]),(132,x132 P),(133,x133 P),(134,oT #[]),(136,oT #[vS "tree" 355]),(137,oT #[]),(139,x139 P),(140,x140 P),(141,oT #[]),(144,x144 P),(145,x145 P),(146,oT #[]),(149,x149 P),(150,x150 P),(151,oT #[]),(154,x154 P),(155,x155 P),(156,oT #[]),(158,oT #[vS "turning" 382,vS "tree" 383]),(159,oT #[]),(161,x161 P),(162,x162 P),(163,oT #[]),(165,oT #[vS "turning" 390,vS "tree" 391]),(166,oT #[]),(168,x168 P),(169,x169 P),(170,oT #[]),(172,x172 P),(173,oT #[]),(175,x175 P),(176,x176 P),(177,oT #[]),(179,x179 P),(180,oT #[]),(182,x182 P),(183,x183 P),(184,oT #[]),(186,x186 P),(187,oT #[]),(189,x189 P),(190,x190 P),(191,oT #[]),(193,x193 P),(194,oT #[]),(196,x196 P),(197,x197 P),(198,oT #[]),(200,x200 P),(201,oT #[]),(203,x203 P),(204,x204 P),(205,oT #[]),(207,oT #[vS "turning" 456,vS "tree" 457]),(208,oT #[]),(210,x210 P),(211,x211 P),(212,oT #[]),(214,x214 P),(215,oT #[]),(217,x217 P),(218,x218 P),(219,oT #[]),(221,x221 P),(222,oT #[]),(224,x224 P),(225,x225 P),(226,oT #[]),(228,x228 P),(229,oT #[]),(231,x231 P),(232,x232 P),(233,oT #[]),(235,x235 P),(236,oT #[]),(238,x238 P),(239,x239 P),(240,oT #[]),(243,x243 P),(244,x244 P),(245,oT #[]),(247,oT #[vS "_law_cell" 507]),(248,oT #[]),(250,x250 P),(251,x251 P),(252,oT #[]),(254,oT #[vS "_law_found" 514]),(255,oT #[]),(257,x257 P),(258,x258 P),(259,oT #[]),(262,x262 P),(263,x263 P),(264,oT #[]),(266,x266 P),(267,oT #[]),(269,x269 P),(270,x270 P),(271,oT #[]),(273,x273 P),(274,oT #[]),(276,x276 P),(277,x277 P),(278,oT #[]),(281,x281 P),(282,x282 P),(283,oT #[]),(285,x285 P),(286,oT #[]),(288,x288 P),(289,x289 P),(290,oT #[]),(292,x292 P),(293,oT #[]),(295,x295 P),(296,x296 P),(297,oT #[]),(299,x299 P),(300,oT #[]),(302,x302 P),(303,x303 P),(304,oT #[]),(306,x306 P),(307,oT #[]),(309,x309 P),(310,x310 P)]
end
noncomputable def PySem.W.Fast.tw11617934387069699578:PySem.Params→PySem.W.Frag:=K26.hp
theorem PySem.W.Fast.te11617934387069699578:K26.hp=PySem.W.Fast.tw11617934387069699578:=rfl
namespace PySem.W.Fast
open PySem K26
noncomputable def tw1376045090155310735:Params→Obj:=fun P=>oF vF "mark_put" "mark_put" (top 3) 3 (vS "turnery.terms" 187) (vR 34)
theorem te1376045090155310735:tw1376045090155310735=tw1376045090155310735:=rfl
noncomputable def tw4415332087877711244:Params→Obj:=fun P=>oF vF "many" "many" (top 26) 3 (vS "turnery.counting" 377) (vR 161)
theorem te4415332087877711244:tw4415332087877711244=tw4415332087877711244:=rfl
noncomputable def tw136569934429074092:Params→Obj:=fun P=>oF vF "seen" "seen" (top 30) 3 (vS "turnery.counting" 377) (vR 189)
theorem te136569934429074092:tw136569934429074092=tw136569934429074092:=rfl
noncomputable def tw16329205179755058901:Params→Obj:=fun P=>oF vF "tall_by" "tall_by" (top 29) 3 (vS "turnery.counting" 377) (vR 182)
theorem te16329205179755058901:tw16329205179755058901=tw16329205179755058901:=rfl
noncomputable def tw1567010086167056732:Params→Obj:=fun P=>oF vN "turned_in" "turned_in" (top 37) 0 vN vN
theorem te1567010086167056732:tw1567010086167056732=tw1567010086167056732:=rfl
noncomputable def tw5229899652594362834:Params→Obj:=fun P=>oF vN "filled" "filled" (top 24) 0 vN vN
theorem te5229899652594362834:tw5229899652594362834=tw5229899652594362834:=rfl
noncomputable def tw13681371624291259846:Params→Obj:=fun P=>oF vN "_law_wide" "_law_wide" (top 45) 0 vN vN
theorem te13681371624291259846:tw13681371624291259846=tw13681371624291259846:=rfl
noncomputable def tw2944642760928483375:Params→Obj:=fun P=>oF vN "turned" "turned" (top 36) 0 vN vN
theorem te2944642760928483375:tw2944642760928483375=tw2944642760928483375:=rfl
noncomputable def tw4790268734053010120:Params→Obj:=fun P=>oF vF "rule_of" "rule_of" (top 18) 3 (vS "turnery.turnings" 325) (vR 125)
theorem te4790268734053010120:tw4790268734053010120=tw4790268734053010120:=rfl
noncomputable def tw5268034090820570665:Params→Obj:=fun P=>oF vF "_law_rules" "_law_rules" (top 51) 3 (vS "law_turnery_k26_outcomes_too_great" 479) (vR 302)
theorem te5268034090820570665:tw5268034090820570665=tw5268034090820570665:=rfl
noncomputable def tw12895456577097061282:Params→Obj:=fun P=>oF vF "row_of" "row_of" (top 13) 3 (vS "turnery.woods" 283) (vR 99)
theorem te12895456577097061282:tw12895456577097061282=tw12895456577097061282:=rfl
noncomputable def tw18400651409331182621:Params→Obj:=fun P=>oF vN "_law_answer" "_law_answer" (top 50) 0 vN vN
theorem te18400651409331182621:tw18400651409331182621=tw18400651409331182621:=rfl
noncomputable def tw1632800423503960451:Params→Obj:=fun P=>oF vF "turned" "turned" (top 36) 3 (vS "turnery.running" 447) (vR 210)
theorem te1632800423503960451:tw1632800423503960451=tw1632800423503960451:=rfl
noncomputable def tw9254903388338559647:Params→Obj:=fun P=>oF vN "many_by" "many_by" (top 28) 0 vN vN
theorem te9254903388338559647:tw9254903388338559647=tw9254903388338559647:=rfl
noncomputable def tw2582002192004659881:Params→Obj:=fun P=>oF vN "has_number" "has_number" (top 10) 0 vN vN
theorem te2582002192004659881:tw2582002192004659881=tw2582002192004659881:=rfl
noncomputable def tw18014296574053047492:Params→Obj:=fun P=>oF vF "_law_deep" "_law_deep" (top 46) 3 (vS "law_turnery_k26_outcomes_too_great" 479) (vR 269)
theorem te18014296574053047492:tw18014296574053047492=tw18014296574053047492:=rfl
noncomputable def tw3421499729755276532:Params→Obj:=fun P=>oF vF "_law_names" "_law_names" (top 42) 3 (vS "law_turnery_k26_outcomes_too_great" 479) (vR 243)
theorem te3421499729755276532:tw3421499729755276532=tw3421499729755276532:=rfl
noncomputable def tw9265612577428817778:Params→Obj:=fun P=>oF vF "is_of" "is_of" (top 14) 3 (vS "turnery.woods" 283) (vR 104)
theorem te9265612577428817778:tw9265612577428817778=tw9265612577428817778:=rfl
noncomputable def tw11112079444340380030:Params→Obj:=fun P=>oF vN "seen" "seen" (top 30) 0 vN vN
theorem te11112079444340380030:tw11112079444340380030=tw11112079444340380030:=rfl
noncomputable def tw995439849760640966:Params→Obj:=fun P=>oF vN "seen_by" "seen_by" (top 31) 0 vN vN
theorem te995439849760640966:tw995439849760640966=tw995439849760640966:=rfl
noncomputable def tw2540099112985638117:Params→Obj:=fun P=>oF vN "_law_great" "_law_great" (top 43) 0 vN vN
theorem te2540099112985638117:tw2540099112985638117=tw2540099112985638117:=rfl
noncomputable def tw10629106918324140387:Params→Obj:=fun P=>oF vF "above" "above" (top 21) 3 (vS "turnery.outcomes" 340) (vR 139)
theorem te10629106918324140387:tw10629106918324140387=tw10629106918324140387:=rfl
noncomputable def tw6784665933301060298:Params→Obj:=fun P=>oF vF "outcome" "outcome" (top 20) 3 (vS "turnery.outcomes" 340) (vR 132)
theorem te6784665933301060298:tw6784665933301060298=tw6784665933301060298:=rfl
noncomputable def tw14275418391825959352:Params→Obj:=fun P=>oF vF "need_of" "need_of" (top 15) 3 (vS "turnery.woods" 283) (vR 111)
theorem te14275418391825959352:tw14275418391825959352=tw14275418391825959352:=rfl
noncomputable def tw15182133013673539786:Params→Obj:=fun P=>oF vN "is_of" "is_of" (top 14) 0 vN vN
theorem te15182133013673539786:tw15182133013673539786=tw15182133013673539786:=rfl
noncomputable def tw12269670106043741722:Params→Obj:=fun P=>oF vF "turned_by" "turned_by" (top 38) 3 (vS "turnery.running" 447) (vR 224)
theorem te12269670106043741722:tw12269670106043741722=tw12269670106043741722:=rfl
noncomputable def tw10994015296256105706:Params→Obj:=fun P=>oF vF "_law_put" "_law_put" (top 48) 3 (vS "law_turnery_k26_outcomes_too_great" 479) (vR 281)
theorem te10994015296256105706:tw10994015296256105706=tw10994015296256105706:=rfl
noncomputable def tw6538052822347868434:Params→Obj:=fun P=>oF vN "need_of" "need_of" (top 15) 0 vN vN
theorem te6538052822347868434:tw6538052822347868434=tw6538052822347868434:=rfl
noncomputable def tw14235399705778939326:Params→Obj:=fun P=>oF vN "_law_rules" "_law_rules" (top 51) 0 vN vN
theorem te14235399705778939326:tw14235399705778939326=tw14235399705778939326:=rfl
noncomputable def tw16604239995244799631:Params→Obj:=fun P=>oF vN "first_put" "first_put" (top 32) 0 vN vN
theorem te16604239995244799631:tw16604239995244799631=tw16604239995244799631:=rfl
noncomputable def tw8829256727077887967:Params→Obj:=fun P=>oF vN "law" "law" (top 52) 0 vN vN
theorem te8829256727077887967:tw8829256727077887967=tw8829256727077887967:=rfl
noncomputable def tw14265584614850470277:Params→Obj:=fun P=>oF vF "_law_kept" "_law_kept" (top 47) 3 (vS "law_turnery_k26_outcomes_too_great" 479) (vR 276)
theorem te14265584614850470277:tw14265584614850470277=tw14265584614850470277:=rfl
noncomputable def tw13354957399378597720:Params→Obj:=fun P=>oF vN "calls_of" "calls_of" (top 2) 0 vN vN
theorem te13354957399378597720:tw13354957399378597720=tw13354957399378597720:=rfl
noncomputable def tw13284879817383413952:Params→Obj:=fun P=>oF vF "turned_in" "turned_in" (top 37) 3 (vS "turnery.running" 447) (vR 217)
theorem te13284879817383413952:tw13284879817383413952=tw13284879817383413952:=rfl
noncomputable def tw12441024745220521965:Params→Obj:=fun P=>oF vN "_law_cell_at" "_law_cell_at" (top 40) 0 vN vN
theorem te12441024745220521965:tw12441024745220521965=tw12441024745220521965:=rfl
noncomputable def tw4655215557027444259:Params→Obj:=fun P=>oF vN "_law_walk" "_law_walk" (top 49) 0 vN vN
theorem te4655215557027444259:tw4655215557027444259=tw4655215557027444259:=rfl
noncomputable def tw6939740254519066437:Params→Obj:=fun P=>oF vF "_law_cell_at" "_law_cell_at" (top 40) 3 (vS "law_turnery_k26_outcomes_too_great" 479) (vR 231)
theorem te6939740254519066437:tw6939740254519066437=tw6939740254519066437:=rfl
noncomputable def tw4533804644097372238:Params→Obj:=fun P=>oF vN "_law_names" "_law_names" (top 42) 0 vN vN
theorem te4533804644097372238:tw4533804644097372238=tw4533804644097372238:=rfl
noncomputable def tw3571182161888868057:Params→Obj:=fun P=>oF vF "reckoned" "reckoned" (top 22) 3 (vS "turnery.outcomes" 340) (vR 144)
theorem te3571182161888868057:tw3571182161888868057=tw3571182161888868057:=rfl
noncomputable def tw14052933173677258328:Params→Obj:=fun P=>oF vF "has_number" "has_number" (top 10) 3 (vS "turnery.trees" 273) (vR 85)
theorem te14052933173677258328:tw14052933173677258328=tw14052933173677258328:=rfl
noncomputable def tw3259667074792079548:Params→Obj:=fun P=>oF vN "mark_put" "mark_put" (top 3) 0 vN vN
theorem te3259667074792079548:tw3259667074792079548=tw3259667074792079548:=rfl
noncomputable def tw14482958061075248125:Params→Obj:=fun P=>oF vF "many_by" "many_by" (top 28) 3 (vS "turnery.counting" 377) (vR 175)
theorem te14482958061075248125:tw14482958061075248125=tw14482958061075248125:=rfl
noncomputable def tw4503558053530441019:Params→Obj:=fun P=>oF vN "rule_of" "rule_of" (top 18) 0 vN vN
theorem te4503558053530441019:tw4503558053530441019=tw4503558053530441019:=rfl
noncomputable def tw1081560190175053641:Params→Obj:=fun P=>oF vF "_law_mixed" "_law_mixed" (top 41) 3 (vS "law_turnery_k26_outcomes_too_great" 479) (vR 238)
theorem te1081560190175053641:tw1081560190175053641=tw1081560190175053641:=rfl
noncomputable def tw4267529504961349805:Params→Obj:=fun P=>oF vF "tall" "tall" (top 27) 3 (vS "turnery.counting" 377) (vR 168)
theorem te4267529504961349805:tw4267529504961349805=tw4267529504961349805:=rfl
noncomputable def tw10224805202339666351:Params→Obj:=fun P=>oF vF "law" "law" (top 52) 3 (vS "law_turnery_k26_outcomes_too_great" 479) (vR 309)
theorem te10224805202339666351:tw10224805202339666351=tw10224805202339666351:=rfl
noncomputable def tw3351429709793208812:Params→Obj:=fun P=>oF vF "_law_whole" "_law_whole" (top 44) 3 (vS "law_turnery_k26_outcomes_too_great" 479) (vR 257)
theorem te3351429709793208812:tw3351429709793208812=tw3351429709793208812:=rfl
noncomputable def tw3677780496708975721:Params→Obj:=fun P=>oF vF "_law_answer" "_law_answer" (top 50) 3 (vS "law_turnery_k26_outcomes_too_great" 479) (vR 295)
theorem te3677780496708975721:tw3677780496708975721=tw3677780496708975721:=rfl
noncomputable def tw2070867958009841559:Params→Obj:=fun P=>oF vN "row_of" "row_of" (top 13) 0 vN vN
theorem te2070867958009841559:tw2070867958009841559=tw2070867958009841559:=rfl
noncomputable def tw6944716900475615849:Params→Obj:=fun P=>oF vN "_law_mixed" "_law_mixed" (top 41) 0 vN vN
theorem te6944716900475615849:tw6944716900475615849=tw6944716900475615849:=rfl
noncomputable def tw16446869205727405091:Params→Obj:=fun P=>oF vN "reckoned" "reckoned" (top 22) 0 vN vN
theorem te16446869205727405091:tw16446869205727405091=tw16446869205727405091:=rfl
noncomputable def tw6349171623712878145:Params→Obj:=fun P=>oF vN "_law_deep" "_law_deep" (top 46) 0 vN vN
theorem te6349171623712878145:tw6349171623712878145=tw6349171623712878145:=rfl
noncomputable def tw10080021914751796116:Params→Obj:=fun P=>oF vF "need_in" "need_in" (top 16) 3 (vS "turnery.woods" 283) (vR 118)
theorem te10080021914751796116:tw10080021914751796116=tw10080021914751796116:=rfl
noncomputable def tw2585122276081414023:Params→Obj:=fun P=>oF vN "_law_put" "_law_put" (top 48) 0 vN vN
theorem te2585122276081414023:tw2585122276081414023=tw2585122276081414023:=rfl
noncomputable def tw6726517906279495016:Params→Obj:=fun P=>oF vN "above" "above" (top 21) 0 vN vN
theorem te6726517906279495016:tw6726517906279495016=tw6726517906279495016:=rfl
noncomputable def tw5784790377238013286:Params→Obj:=fun P=>oF vN "turned_by" "turned_by" (top 38) 0 vN vN
theorem te5784790377238013286:tw5784790377238013286=tw5784790377238013286:=rfl
noncomputable def tw8110165828768049890:Params→Obj:=fun P=>oF vN "is_call" "is_call" (top 1) 0 vN vN
theorem te8110165828768049890:tw8110165828768049890=tw8110165828768049890:=rfl
noncomputable def tw8185360991278649736:Params→Obj:=fun P=>oF vF "_law_great" "_law_great" (top 43) 3 (vS "law_turnery_k26_outcomes_too_great" 479) (vR 250)
theorem te8185360991278649736:tw8185360991278649736=tw8185360991278649736:=rfl
noncomputable def tw16127925570353146122:Params→Obj:=fun P=>oF vN "_law_whole" "_law_whole" (top 44) 0 vN vN
theorem te16127925570353146122:tw16127925570353146122=tw16127925570353146122:=rfl
noncomputable def tw9043944529032257939:Params→Obj:=fun P=>oF vN "put_head" "put_head" (top 4) 0 vN vN
theorem te9043944529032257939:tw9043944529032257939=tw9043944529032257939:=rfl
noncomputable def tw4014038437221440074:Params→Obj:=fun P=>oF vF "rows_of" "rows_of" (top 12) 3 (vS "turnery.woods" 283) (vR 92)
theorem te4014038437221440074:tw4014038437221440074=tw4014038437221440074:=rfl
noncomputable def tw9247499516892419495:Params→Obj:=fun P=>oF vF "is_call" "is_call" (top 1) 3 (vS "turnery.terms" 187) (vR 20)
theorem te9247499516892419495:tw9247499516892419495=tw9247499516892419495:=rfl
noncomputable def tw1655825901478576073:Params→Obj:=fun P=>oF vN "outcome" "outcome" (top 20) 0 vN vN
theorem te1655825901478576073:tw1655825901478576073=tw1655825901478576073:=rfl
noncomputable def tw413031348508562124:Params→Obj:=fun P=>oF vN "rows_of" "rows_of" (top 12) 0 vN vN
theorem te413031348508562124:tw413031348508562124=tw413031348508562124:=rfl
noncomputable def tw5322176298316235130:Params→Obj:=fun P=>oF vF "put_head" "put_head" (top 4) 3 (vS "turnery.terms" 187) (vR 41)
theorem te5322176298316235130:tw5322176298316235130=tw5322176298316235130:=rfl
noncomputable def tw10009779298829588187:Params→Obj:=fun P=>oF vF "_law_walk" "_law_walk" (top 49) 3 (vS "law_turnery_k26_outcomes_too_great" 479) (vR 288)
theorem te10009779298829588187:tw10009779298829588187=tw10009779298829588187:=rfl
noncomputable def tw13352864417484651674:Params→Obj:=fun P=>oF vN "tall" "tall" (top 27) 0 vN vN
theorem te13352864417484651674:tw13352864417484651674=tw13352864417484651674:=rfl
noncomputable def tw17004953812684142052:Params→Obj:=fun P=>oF vN "called_below" "called_below" (top 23) 0 vN vN
theorem te17004953812684142052:tw17004953812684142052=tw17004953812684142052:=rfl
noncomputable def tw3873268383144004382:Params→Obj:=fun P=>oF vN "_law_kept" "_law_kept" (top 47) 0 vN vN
theorem te3873268383144004382:tw3873268383144004382=tw3873268383144004382:=rfl
noncomputable def tw16733545357230694810:Params→Obj:=fun P=>oF vF "called_below" "called_below" (top 23) 3 (vS "turnery.outcomes" 340) (vR 149)
theorem te16733545357230694810:tw16733545357230694810=tw16733545357230694810:=rfl
noncomputable def tw17484702279096099085:Params→Obj:=fun P=>oF vN "many" "many" (top 26) 0 vN vN
theorem te17484702279096099085:tw17484702279096099085=tw17484702279096099085:=rfl
noncomputable def tw10374590612796369293:Params→Obj:=fun P=>oF vF "seen_by" "seen_by" (top 31) 3 (vS "turnery.counting" 377) (vR 196)
theorem te10374590612796369293:tw10374590612796369293=tw10374590612796369293:=rfl
noncomputable def tw15723506906100369193:Params→Obj:=fun P=>oF vF "calls_of" "calls_of" (top 2) 3 (vS "turnery.terms" 187) (vR 27)
theorem te15723506906100369193:tw15723506906100369193=tw15723506906100369193:=rfl
noncomputable def tw11521500800822287030:Params→Obj:=fun P=>oF vN "need_in" "need_in" (top 16) 0 vN vN
theorem te11521500800822287030:tw11521500800822287030=tw11521500800822287030:=rfl
noncomputable def tw9616604635129983516:Params→Obj:=fun P=>oF vF "first_put" "first_put" (top 32) 3 (vS "turnery.counting" 377) (vR 203)
theorem te9616604635129983516:tw9616604635129983516=tw9616604635129983516:=rfl
noncomputable def tw11913686503153861775:Params→Obj:=fun P=>oF vF "_law_wide" "_law_wide" (top 45) 3 (vS "law_turnery_k26_outcomes_too_great" 479) (vR 262)
theorem te11913686503153861775:tw11913686503153861775=tw11913686503153861775:=rfl
noncomputable def tw14657984130123519728:Params→Obj:=fun P=>oF vN "tall_by" "tall_by" (top 29) 0 vN vN
theorem te14657984130123519728:tw14657984130123519728=tw14657984130123519728:=rfl
noncomputable def tw16079235623448233858:Params→Obj:=fun P=>oF vF "filled" "filled" (top 24) 3 (vS "turnery.outcomes" 340) (vR 154)
theorem te16079235623448233858:tw16079235623448233858=tw16079235623448233858:=rfl
end PySem.W.Fast
noncomputable def PySem.W.Fast.tw9405150565725890339:PySem.Program:=PySem.Challenge.pw_turnery_k26_outcomes_too_great
theorem PySem.W.Fast.te9405150565725890339:(PySem.Challenge.pw_turnery_k26_outcomes_too_great:PySem.Program)=PySem.W.Fast.tw9405150565725890339:=rfl
noncomputable def PySem.W.Fast.tw13762783374497414623:PySem.Program:={ PySem.Challenge.pw_turnery_k26_outcomes_too_great with main:={ PySem.Challenge.pw_turnery_k26_outcomes_too_great.main with body:=[K26.top 1,K26.top 2,K26.top 3,K26.top 4,K26.top 6,K26.top 7,K26.top 8,K26.top 10,K26.top 12,K26.top 13,K26.top 14,K26.top 15,K26.top 16,K26.top 18,K26.top 20,K26.top 21,K26.top 22,K26.top 23,K26.top 24,K26.top 26,K26.top 27,K26.top 28,K26.top 29,K26.top 30,K26.top 31,K26.top 32,K26.top 34,K26.top 35,K26.top 36,K26.top 37,K26.top 38,K26.top 40,K26.top 41,K26.top 42,K26.top 43,K26.top 44,K26.top 45,K26.top 46,K26.top 47,K26.top 48,K26.top 49,K26.top 50,K26.top 51,K26.top 52] } }
theorem PySem.W.Fast.te13762783374497414623:({ PySem.Challenge.pw_turnery_k26_outcomes_too_great with main:={ PySem.Challenge.pw_turnery_k26_outcomes_too_great.main with body:=[K26.top 1,K26.top 2,K26.top 3,K26.top 4,K26.top 6,K26.top 7,K26.top 8,K26.top 10,K26.top 12,K26.top 13,K26.top 14,K26.top 15,K26.top 16,K26.top 18,K26.top 20,K26.top 21,K26.top 22,K26.top 23,K26.top 24,K26.top 26,K26.top 27,K26.top 28,K26.top 29,K26.top 30,K26.top 31,K26.top 32,K26.top 34,K26.top 35,K26.top 36,K26.top 37,K26.top 38,K26.top 40,K26.top 41,K26.top 42,K26.top 43,K26.top 44,K26.top 45,K26.top 46,K26.top 47,K26.top 48,K26.top 49,K26.top 50,K26.top 51,K26.top 52] } }:PySem.Program)=PySem.W.Fast.tw13762783374497414623:=rfl
noncomputable def PySem.W.Fast.tw14793930300471901411:List PySem.Stmt:=(PySem.Challenge.pw_turnery_k26_outcomes_too_great.main.body.drop 0).take 7
theorem PySem.W.Fast.te14793930300471901411:((PySem.Challenge.pw_turnery_k26_outcomes_too_great.main.body.drop 0).take 7:List PySem.Stmt)=PySem.W.Fast.tw14793930300471901411:=rfl
noncomputable def PySem.W.Fast.tw9528026701710512578:List PySem.Stmt:=(PySem.Challenge.pw_turnery_k26_outcomes_too_great.main.body.drop 7).take 1
theorem PySem.W.Fast.te9528026701710512578:((PySem.Challenge.pw_turnery_k26_outcomes_too_great.main.body.drop 7).take 1:List PySem.Stmt)=PySem.W.Fast.tw9528026701710512578:=rfl
noncomputable def PySem.W.Fast.tw5315342926187944943:List PySem.Stmt:=(PySem.Challenge.pw_turnery_k26_outcomes_too_great.main.body.drop 8).take 8
theorem PySem.W.Fast.te5315342926187944943:((PySem.Challenge.pw_turnery_k26_outcomes_too_great.main.body.drop 8).take 8:List PySem.Stmt)=PySem.W.Fast.tw5315342926187944943:=rfl
noncomputable def PySem.W.Fast.tw8155125604343404501:List PySem.Stmt:=(PySem.Challenge.pw_turnery_k26_outcomes_too_great.main.body.drop 16).take 15
theorem PySem.W.Fast.te8155125604343404501:((PySem.Challenge.pw_turnery_k26_outcomes_too_great.main.body.drop 16).take 15:List PySem.Stmt)=PySem.W.Fast.tw8155125604343404501:=rfl
noncomputable def PySem.W.Fast.tw11790168634844776079:List PySem.Stmt:=(PySem.Challenge.pw_turnery_k26_outcomes_too_great.main.body.drop 31).take 15
theorem PySem.W.Fast.te11790168634844776079:((PySem.Challenge.pw_turnery_k26_outcomes_too_great.main.body.drop 31).take 15:List PySem.Stmt)=PySem.W.Fast.tw11790168634844776079:=rfl
noncomputable def PySem.W.Fast.tw6356016268578135531:List PySem.Stmt:=(PySem.Challenge.pw_turnery_k26_outcomes_too_great.main.body.drop 46).take 7
theorem PySem.W.Fast.te6356016268578135531:((PySem.Challenge.pw_turnery_k26_outcomes_too_great.main.body.drop 46).take 7:List PySem.Stmt)=PySem.W.Fast.tw6356016268578135531:=rfl
section
open PySem
open K26
noncomputable def _root_.PySem.W.Fast.tw2448271496811599683:Params→Heap:=fun P=>{ objs:=⟨[W.boot_o_0 P,W.boot_o_1 P,Obj.mk vN none (Data.dict #[]) #[],x3 P,W.boot_o_4 P,W.boot_o_5 P,W.boot_o_6 P,W.boot_o_7 P,W.boot_o_8 P,W.boot_o_9 P,W.boot_o_10 P,{ cls:=Value.type "tuple", data:=Data.seq #[] },{ cls:=vN,data:=Data.fields #[vI 2 0,vI 0 0,vR 20,vI 4 0,vI 0 0,vR 27,vI 11 0,vI 0 0,vR 34,vI 13 0,vI 0 0,vR 41,vI 16 0,vI 0 0,vR 48,vI 18 0,vI 0 0,vR 61,vI 20 0,vI 0 0,vR 73,vI 23 0,vI 0 0,vR 85,vI 28 0,vI 0 0,vR 92,vI 30 0,vI 0 0,vR 99,vI 32 0,vI 0 0,vR 104,vI 38 0,vI 0 0,vR 111,vI 41 0,vI 0 0,vR 118,vI 44 0,vI 0 0,vR 125,vI 52 0,vI 0 0,vR 132,vI 54 0,vI 0 0,vR 139,vI 56 0,vI 0 0,vR 144,vI 61 0,vI 0 0,vR 149,vI 68 0,vI 0 0,vR 154,vI 73 0,vI 0 0,vR 161,vI 76 0,vI 0 0,vR 168,vI 79 0,vI 0 0,vR 175,vI 81 0,vI 0 0,vR 182,vI 83 0,vI 0 0,vR 189,vI 86 0,vI 0 0,vR 196,vI 94 0,vI 0 0,vR 203,vI 105 0,vI 0 0,vR 210,vI 108 0,vI 0 0,vR 217,vI 111 0,vI 0 0,vR 224,vI 118 0,vI 0 0,vR 231,vI 122 0,vI 0 0,vR 238,vI 126 0,vI 0 0,vR 243,vI 139 0,vI 0 0,vR 250,vI 141 0,vI 0 0,vR 257,vI 143 0,vI 0 0,vR 262,vI 145 0,vI 0 0,vR 269,vI 150 0,vI 0 0,vR 276,vI 152 0,vI 0 0,vR 281,vI 157 0,vI 0 0,vR 288,vI 169 0,vI 0 0,vR 295,vI 176 0,vI 0 0,vR 302,vI 181 0,vI 0 0,vR 309] },{ cls:=Value.type "code", data:=Data.fields #[vS "<module>" 182,vS "<module>" 183,vS "/claim/cut.py" 184,vI 1 0,vI 0 0,vI 0 0,vI 0 0,vI 0 0,vR 11,Value.bool false,vI 181 0,vR 12,vN,vN,vN,vN,vI 185 0,vI 1 0,vS "/claim/cut.py" 186] },{ cls:=Value.type "frame", slots:=#[some (vR 13),some (vR 3),some (vR 3),none,some (vS "__main__" 164),none,some (vR 0)] },oT #[],oE,oT #[vS "term" 192],oT #[],W.Fast.tw8110165828768049890 P,x20 P,x21 P,oT #[],oE,x24 P,oT #[],W.Fast.tw13354957399378597720 P,x27 P,x28 P,oT #[],oE,oT #[vS "term" 208,vS "mark" 209],oT #[],W.Fast.tw3259667074792079548 P,x34 P,x35 P,oT #[],oE,oT #[vS "term" 216,vS "mark" 217],oT #[],W.Fast.tw9043944529032257939 P,x41 P,x42 P,oT #[Value.type "ValueError"],{ cls:=Value.type "builtin_function_or_method", data:=Data.fields #[Value.builtin "type.__prepare__", Value.type "type"] },{ cls:=Value.type "dict", data:=Data.dict #[hE P "__module__" 230 (vS "turnery.errors" 221),hE P "__qualname__" 232 (vS "TurnError" 231),hE P "__firstlineno__" 234 (vI 16 233),hE P "__static_attributes__" 235 (vR 50)] 4 },{ cls:=Value.type "tuple", data:=Data.seq #[] },oE,{ cls:=Value.type "code", data:=Data.fields #[vS "TurnError" 225,vS "TurnError" 226,vS "/claim/cut.py" 227,vI 16 0,vI 0 0,vI 0 0,vI 0 0,vI 0 0,vR 46,Value.bool false,vI 181 0,vR 47,vN,vN,vN,vN,vI 228 0,vI 16 0,vS "/claim/cut.py" 229] },{ cls:=Value.type "frame", slots:=#[some (vR 48),some (vR 3),some (vR 45),none,some (vS "turnery.errors" 221),none,some (vR 0)] },oT #[],x51 P,x52 P,x53 P,{ cls:=Value.type "super", data:=Data.fields #[vR 52,vR 52,vR 52] },{ cls:=Value.type "builtin_function_or_method", data:=Data.fields #[Value.builtin "object.__init_subclass__", vR 52] },oT #[vR 52],{ cls:=Value.type "builtin_function_or_method", data:=Data.fields #[Value.builtin "type.__prepare__", Value.type "type"] },{ cls:=Value.type "dict", data:=Data.dict #[hE P "__module__" 248 (vS "turnery.errors" 221),hE P "__qualname__" 250 (vS "NoTree" 249),hE P "__firstlineno__" 252 (vI 18 251),hE P "__static_attributes__" 253 (vR 63)] 4 },{ cls:=Value.type "tuple", data:=Data.seq #[] },oE,{ cls:=Value.type "code", data:=Data.fields #[vS "NoTree" 243,vS "NoTree" 244,vS "/claim/cut.py" 245,vI 18 0,vI 0 0,vI 0 0,vI 0 0,vI 0 0,vR 59,Value.bool false,vI 181 0,vR 60,vN,vN,vN,vN,vI 246 0,vI 18 0,vS "/claim/cut.py" 247] },{ cls:=Value.type "frame", slots:=#[some (vR 61),some (vR 3),some (vR 58),none,some (vS "turnery.errors" 221),none,some (vR 0)] },oT #[],x64 P,x65 P,{ cls:=Value.type "super", data:=Data.fields #[vR 65,vR 65,vR 65] },{ cls:=Value.type "builtin_function_or_method", data:=Data.fields #[Value.builtin "object.__init_subclass__", vR 65] },oT #[vR 52],{ cls:=Value.type "builtin_function_or_method", data:=Data.fields #[Value.builtin "type.__prepare__", Value.type "type"] },{ cls:=Value.type "dict", data:=Data.dict #[hE P "__module__" 264 (vS "turnery.errors" 221),hE P "__qualname__" 266 (vS "TooGreat" 265),hE P "__firstlineno__" 268 (vI 20 267),hE P "__static_attributes__" 269 (vR 75)] 4 },{ cls:=Value.type "tuple", data:=Data.seq #[] },oE,{ cls:=Value.type "code", data:=Data.fields #[vS "TooGreat" 259,vS "TooGreat" 260,vS "/claim/cut.py" 261,vI 20 0,vI 0 0,vI 0 0,vI 0 0,vI 0 0,vR 71,Value.bool false,vI 181 0,vR 72,vN,vN,vN,vN,vI 262 0,vI 20 0,vS "/claim/cut.py" 263] },{ cls:=Value.type "frame", slots:=#[some (vR 73),some (vR 3),some (vR 70),none,some (vS "turnery.errors" 221),none,some (vR 0)] },oT #[],x76 P,x77 P,{ cls:=Value.type "super", data:=Data.fields #[vR 77,vR 77,vR 77] },{ cls:=Value.type "builtin_function_or_method", data:=Data.fields #[Value.builtin "object.__init_subclass__", vR 77] },oT #[],oE,oT #[vS "branches" 278,vS "number" 279],oT #[],W.Fast.tw2582002192004659881 P,x85 P,x86 P,oT #[],oE,oT #[vS "wood" 288,vS "kind" 289],oT #[],W.Fast.tw413031348508562124 P,x92 P,x93 P,oT #[],oE,x96 P,oT #[],W.Fast.tw2070867958009841559 P,x99 P,x100 P,oT #[],oE,W.Fast.tw15182133013673539786 P,x104 P,x105 P,oT #[],oE,x108 P,oT #[],W.Fast.tw6538052822347868434 P,x111 P,x112 P,oT #[],oE,oT #[vS "wood" 320,vS "tree" 321],oT #[],W.Fast.tw11521500800822287030 P,x118 P,x119 P,oT #[],oE,x122 P,oT #[],W.Fast.tw4503558053530441019 P,x125 P,x126 P,oT #[],oE,x129 P,oT #[],W.Fast.tw1655825901478576073 P,x132 P,x133 P,oT #[],oE,oT #[vS "tree" 355],oT #[],W.Fast.tw6726517906279495016 P,x139 P,x140 P,oT #[],oE,W.Fast.tw16446869205727405091 P,x144 P,x145 P,oT #[],oE,W.Fast.tw17004953812684142052 P,x149 P,x150 P,oT #[],oE,W.Fast.tw5229899652594362834 P,x154 P,x155 P,oT #[],oE,oT #[vS "turning" 382,vS "tree" 383],oT #[],W.Fast.tw17484702279096099085 P,x161 P,x162 P,oT #[],oE,oT #[vS "turning" 390,vS "tree" 391],oT #[],W.Fast.tw13352864417484651674 P,x168 P,x169 P,oT #[],oE,x172 P,oT #[],W.Fast.tw9254903388338559647 P,x175 P,x176 P,oT #[],oE,x179 P,oT #[],W.Fast.tw14657984130123519728 P,x182 P,x183 P,oT #[],oE,x186 P,oT #[],W.Fast.tw11112079444340380030 P,x189 P,x190 P,oT #[],oE,x193 P,oT #[],W.Fast.tw995439849760640966 P,x196 P,x197 P,oT #[],oE,x200 P,oT #[],W.Fast.tw16604239995244799631 P,x203 P,x204 P,oT #[],oE,oT #[vS "turning" 456,vS "tree" 457],oT #[],W.Fast.tw2944642760928483375 P,x210 P,x211 P,oT #[],oE,x214 P,oT #[],W.Fast.tw1567010086167056732 P,x217 P,x218 P,oT #[],oE,x221 P,oT #[],W.Fast.tw5784790377238013286 P,x224 P,x225 P,oT #[],oE,x228 P,oT #[],W.Fast.tw12441024745220521965 P,x231 P,x232 P,oT #[],oE,x235 P,oT #[],W.Fast.tw6944716900475615849 P,x238 P,x239 P,oT #[],oE,W.Fast.tw4533804644097372238 P,x243 P,x244 P,oT #[],oE,oT #[vS "_law_cell" 507],oT #[],W.Fast.tw2540099112985638117 P,x250 P,x251 P,oT #[],oE,oT #[vS "_law_found" 514],oT #[],W.Fast.tw16127925570353146122 P,x257 P,x258 P,oT #[],oE,W.Fast.tw13681371624291259846 P,x262 P,x263 P,oT #[],oE,x266 P,oT #[],W.Fast.tw6349171623712878145 P,x269 P,x270 P,oT #[],oE,x273 P,oT #[],W.Fast.tw3873268383144004382 P,x276 P,x277 P,oT #[],oE,W.Fast.tw2585122276081414023 P,x281 P,x282 P,oT #[],oE,x285 P,oT #[],W.Fast.tw4655215557027444259 P,x288 P,x289 P,oT #[],oE,x292 P,oT #[],W.Fast.tw18400651409331182621 P,x295 P,x296 P,oT #[],oE,x299 P,oT #[],W.Fast.tw14235399705778939326 P,x302 P,x303 P,oT #[],oE,x306 P,oT #[],W.Fast.tw8829256727077887967 P,x309 P,x310 P]⟩ }
theorem _root_.PySem.W.Fast.te2448271496811599683:PySem.W.Fast.tw2448271496811599683=PySem.W.Fast.tw2448271496811599683:=rfl
end
open PySem PySem.W PyProof.Rows
set_option maxRecDepth 100000 in
set_option maxHeartbeats 0 in
theorem PySem.Challenge.cw_turnery_k26_outcomes_too_great_holds : PySem.Challenge.rw_turnery_k26_outcomes_too_great.Holds := by
  w_on;o_law;k_head;(case hw=>w_witness2)
  k_fill
  refine K26.walk (c1:=175) (T1:=171) (c2:=182) (T2:=178) (c3:=224) (T3:=220) (l:=PySem.Challenge.rw_turnery_k26_outcomes_too_great) rfl rfl (fun w h Y=>PySem.W.km_in_of Y) ?tb1 ?tb2 ?tb3 (by decide) (by decide) (by decide) ?F
  case tb1 =>
    intro w
    refine' L2.TabAt.mk ⟨_,?a⟩ ?b ?c ?d;(case a=>exact rfl);(case b=>kernel_rfl);(case c=>kernel_rfl);(case d=>kernel_rfl)
  case tb2 =>
    intro w
    refine' L2.TabAt.mk ⟨_,?a⟩ ?b ?c ?d;(case a=>exact rfl);(case b=>kernel_rfl);(case c=>kernel_rfl);(case d=>kernel_rfl)
  case tb3 =>
    intro w
    refine' L2.TabAt.mk ⟨_,?a⟩ ?b ?c ?d;(case a=>exact rfl);(case b=>kernel_rfl);(case c=>kernel_rfl);(case d=>kernel_rfl)
  case F =>
    intro w mg fa h KX G hmg
    refine' K26.all_mk (c1:=175) (T1:=171) (c2:=182) (T2:=178) (c3:=224) (T3:=220) KX G hmg ?d1 ?d2 ?d3 ?d4 ?d5 ?d6 ?d7 ?d8 ?d9 ?d10 ?d11 ?d12 ?d13 ?d14 ?d15 ?d16 ?d17 ?d18 ?d19 ?d20 ?d21 ?d22 ?d23 ?d24 ?d25 ?d26 ?d27 ?d28 ?d29 ?d30 ?d31 ?d32 ?d33 ?d34 ?d35 ?d36 ?d37 ?d38 ?d39 ?z1 ?z2 ?z3 ?z4 ?z5 ?z6 ?z7 ?z8 ?z9 ?z10 ?z11 ?z12 ?z13 ?z14 ?z15 ?y1 ?ht1 ?hh1 ?ht2 ?hh2 ?ht3 ?hh3 (by decide) (by decide) (by decide) ?gN ?gG ?qN ?qG ?kG ?gT ?i1 ?i2 ?i3 ?e1 ?e2 ?e3 ?e4 ?e5 ?g4 ?g6
    (case ht1=>kernel_rfl);(case hh1=>kernel_rfl)
    (case ht2=>kernel_rfl);(case hh2=>kernel_rfl)
    (case ht3=>kernel_rfl);(case hh3=>kernel_rfl)
    (case d1=>refine' L2.DefAt.mk' ?a ?l ?c ?k;(case a=>k_is);(case l=>k_is);(case c=>k_is);(case k=>k_is))
    (case d2=>refine' L2.DefAt.mk' ?a ?l ?c ?k;(case a=>k_is);(case l=>k_is);(case c=>k_is);(case k=>k_is))
    (case d3=>refine' L2.DefAt.mk' ?a ?l ?c ?k;(case a=>k_is);(case l=>k_is);(case c=>k_is);(case k=>k_is))
    (case d4=>refine' L2.DefAt.mk' ?a ?l ?c ?k;(case a=>k_is);(case l=>k_is);(case c=>k_is);(case k=>k_is))
    (case d5=>refine' L2.DefAt.mk' ?a ?l ?c ?k;(case a=>k_is);(case l=>k_is);(case c=>k_is);(case k=>k_is))
    (case d6=>refine' L2.DefAt.mk' ?a ?l ?c ?k;(case a=>k_is);(case l=>k_is);(case c=>k_is);(case k=>k_is))
    (case d7=>refine' L2.DefAt.mk' ?a ?l ?c ?k;(case a=>k_is);(case l=>k_is);(case c=>k_is);(case k=>k_is))
    (case d8=>refine' L2.DefAt.mk' ?a ?l ?c ?k;(case a=>k_is);(case l=>k_is);(case c=>k_is);(case k=>k_is))
    (case d9=>refine' L2.DefAt.mk' ?a ?l ?c ?k;(case a=>k_is);(case l=>k_is);(case c=>k_is);(case k=>k_is))
    (case d10=>refine' L2.DefAt.mk' ?a ?l ?c ?k;(case a=>k_is);(case l=>k_is);(case c=>k_is);(case k=>k_is))
    (case d11=>refine' L2.DefAt.mk' ?a ?l ?c ?k;(case a=>k_is);(case l=>k_is);(case c=>k_is);(case k=>k_is))
    (case d12=>refine' L2.DefAt.mk' ?a ?l ?c ?k;(case a=>k_is);(case l=>k_is);(case c=>k_is);(case k=>k_is))
    (case d13=>refine' L2.DefAt.mk' ?a ?l ?c ?k;(case a=>k_is);(case l=>k_is);(case c=>k_is);(case k=>k_is))
    (case d14=>refine' L2.DefAt.mk' ?a ?l ?c ?k;(case a=>k_is);(case l=>k_is);(case c=>k_is);(case k=>k_is))
    (case d15=>refine' L2.DefAt.mk' ?a ?l ?c ?k;(case a=>k_is);(case l=>k_is);(case c=>k_is);(case k=>k_is))
    (case d16=>refine' L2.DefAt.mk' ?a ?l ?c ?k;(case a=>k_is);(case l=>k_is);(case c=>k_is);(case k=>k_is))
    (case d17=>refine' L2.DefAt.mk' ?a ?l ?c ?k;(case a=>k_is);(case l=>k_is);(case c=>k_is);(case k=>k_is))
    (case d18=>refine' L2.DefAt.mk' ?a ?l ?c ?k;(case a=>k_is);(case l=>k_is);(case c=>k_is);(case k=>k_is))
    (case d19=>refine' L2.DefAt.mk' ?a ?l ?c ?k;(case a=>k_is);(case l=>k_is);(case c=>k_is);(case k=>k_is))
    (case d20=>refine' L2.DefAt.mk' ?a ?l ?c ?k;(case a=>k_is);(case l=>k_is);(case c=>k_is);(case k=>k_is))
    (case d21=>refine' L2.DefAt.mk' ?a ?l ?c ?k;(case a=>k_is);(case l=>k_is);(case c=>k_is);(case k=>k_is))
    (case d22=>refine' L2.DefAt.mk' ?a ?l ?c ?k;(case a=>k_is);(case l=>k_is);(case c=>k_is);(case k=>k_is))
    (case d23=>refine' L2.DefAt.mk' ?a ?l ?c ?k;(case a=>k_is);(case l=>k_is);(case c=>k_is);(case k=>k_is))
    (case d24=>refine' L2.DefAt.mk' ?a ?l ?c ?k;(case a=>k_is);(case l=>k_is);(case c=>k_is);(case k=>k_is))
    (case d25=>refine' L2.DefAt.mk' ?a ?l ?c ?k;(case a=>k_is);(case l=>k_is);(case c=>k_is);(case k=>k_is))
    (case d26=>refine' L2.DefAt.mk' ?a ?l ?c ?k;(case a=>k_is);(case l=>k_is);(case c=>k_is);(case k=>k_is))
    (case d27=>refine' L2.DefAt.mk' ?a ?l ?c ?k;(case a=>k_is);(case l=>k_is);(case c=>k_is);(case k=>k_is))
    (case d28=>refine' L2.DefAt.mk' ?a ?l ?c ?k;(case a=>k_is);(case l=>k_is);(case c=>k_is);(case k=>k_is))
    (case d29=>refine' L2.DefAt.mk' ?a ?l ?c ?k;(case a=>k_is);(case l=>k_is);(case c=>k_is);(case k=>k_is))
    (case d30=>refine' L2.DefAt.mk' ?a ?l ?c ?k;(case a=>k_is);(case l=>k_is);(case c=>k_is);(case k=>k_is))
    (case d31=>refine' L2.DefAt.mk' ?a ?l ?c ?k;(case a=>k_is);(case l=>k_is);(case c=>k_is);(case k=>k_is))
    (case d32=>refine' L2.DefAt.mk' ?a ?l ?c ?k;(case a=>k_is);(case l=>k_is);(case c=>k_is);(case k=>k_is))
    (case d33=>refine' L2.DefAt.mk' ?a ?l ?c ?k;(case a=>k_is);(case l=>k_is);(case c=>k_is);(case k=>k_is))
    (case d34=>refine' L2.DefAt.mk' ?a ?l ?c ?k;(case a=>k_is);(case l=>k_is);(case c=>k_is);(case k=>k_is))
    (case d35=>refine' L2.DefAt.mk' ?a ?l ?c ?k;(case a=>k_is);(case l=>k_is);(case c=>k_is);(case k=>k_is))
    (case d36=>refine' L2.DefAt.mk' ?a ?l ?c ?k;(case a=>k_is);(case l=>k_is);(case c=>k_is);(case k=>k_is))
    (case d37=>refine' L2.DefAt.mk' ?a ?l ?c ?k;(case a=>k_is);(case l=>k_is);(case c=>k_is);(case k=>k_is))
    (case d38=>refine' L2.DefAt.mk' ?a ?l ?c ?k;(case a=>k_is);(case l=>k_is);(case c=>k_is);(case k=>k_is))
    (case d39=>refine' L2.DefAt.mk' ?a ?l ?c ?k;(case a=>k_is);(case l=>k_is);(case c=>k_is);(case k=>k_is))
    (case z1=>k_is);(case z2=>k_is);(case z3=>k_is);(case z4=>k_is);(case z5=>k_is);(case z6=>k_is);(case z7=>k_is);(case z8=>k_is);(case z9=>k_is);(case z10=>k_is);(case z11=>k_is);(case z12=>k_is);(case z13=>k_is);(case z14=>k_is);(case z15=>k_is)
    (case y1=>k_is)
    (case gN=>k_is)
    (case gG=>k_is)
    (case qN=>kernel_rfl)
    (case qG=>kernel_rfl)
    (case kG=>kernel_rfl)
    (case gT=>k_is)
    (case i1=>kernel_rfl)
    (case i2=>kernel_rfl)
    (case i3=>kernel_rfl)
    (case e1=>kernel_rfl)
    (case e2=>kernel_rfl)
    (case e3=>kernel_rfl)
    (case e4=>kernel_rfl)
    (case e5=>kernel_rfl)
    (case g4=>k_is)
    (case g6=>k_is)
