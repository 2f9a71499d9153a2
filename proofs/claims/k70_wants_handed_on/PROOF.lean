import PyProof.Rows.All
import Wide.All
import OpenK.AllK
import Wide.FinOn
import Lean
import PyProof.EqAt
import PyProof.EqKinds
import PyProof.TupleCall
import KE.KSortTup
import KE.KRevIter
import KE.KLam
import KE.KNestM
import KE.KTryDeep
import KE.KTryOn
import OpenK.KOwn
import PyProof.MeetsDict
import PySem.Challenge.RW_turnery_k70_wants_handed_on
set_option hygiene false
set_option compiler.extract_closed false
local macro_rules|`((0:))=>`((by decide +kernel))
local macro_rules|`((1:))=>`(⟨rfl,rfl,rfl,by decide +kernel,rfl,by decide +kernel,by decide +kernel⟩)
local macro_rules|`((2:))=>`((fun _ _=>rfl))
local macro_rules|`((3:))=>`((by lia))
local macro_rules|`((4:))=>`((model X.prog X.w))
local macro_rules|`((5:))=>`((Nat.le_refl _))
local macro_rules|`((6:))=>`((B (oT #[]) N N))
local macro_rules|`((7:))=>`((fun vs H Q E h=>?_))
local macro_rules|`((8:))=>`((Addr × Obj))
local macro_rules|`((9:))=>`((Or.inl rfl))
local macro_rules|`((10:))=>`((∀ b o,b≠zp->b≠tu->b≠j1->b≠j2->s.heap.get? b=some o->h'.get? b=some o))
local macro_rules|`((11:))=>`(((s.heap.update a (Obj.mapSeq fun _=>(#[]:Array Value))).push (seqObj "tuple" vs.toArray 0)))
local macro_rules|`((12:))=>`((by decide))
local macro_rules|`((13:))=>`((QJ X (xs ++ caps) scope cl s3.heap.objs.size fp s3 H3))
local macro_rules|`((14:))=>`((.ListComp elt [⟨tg,iter,ifs,0⟩] scope pos))
local macro_rules|`((15:))=>`((model prog w))
local macro_rules|`((16:))=>`((s.heap.objs.size + 1))
local macro_rules|`((17:))=>`((QJ X (xs ++ caps) scope cl C fp s₀ H₀))
local macro_rules|`((18:))=>`((vS "turnery.sources" 238))
local macro_rules|`((19:))=>`((List.mem_cons_of_mem _ G))
local macro_rules|`((20:))=>`((((sIx items.size 0 lo:Nat):Int) == 0 && (1:Int) == 1 && (sIx items.size items.size hi - sIx items.size 0 lo) == items.size))
local macro_rules|`((21:))=>`((by show 0<=sizeLine;decide))
local macro_rules|`((22:))=>`((by simp))
local macro_rules|`((23:))=>`((Q1 X x caps scope cl G.heap.objs.size fp G Y))
local macro_rules|`((24:))=>`((List.getElem?_eq_getElem hi))
local macro_rules|`((25:))=>`((Qk Qj (pv 0) Qd (2:)))
local macro_rules|`((26:))=>`(⟨_,List.getElem?_eq_getElem (3:)⟩)
local macro_rules|`((27:))=>`((Qk Qj (pv 1) Qd (2:)))
local macro_rules|`((28:))=>`((by show 2<=sizeLine;decide))
local macro_rules|`((29:))=>`((by rw [List.length_map];lia))
local macro_rules|`((30:))=>`((B (oE) N N))
local macro_rules|`((31:))=>`((by intro z;cases z))
local macro_rules|`((32:))=>`(⟨X.K,fs,ms,nr,sr⟩)
local macro_rules|`((33:))=>`((.ref s.heap.objs.size))
local macro_rules|`((34:))=>`((if nm=nam u/\t.bs.length=u.bs.length/\(k=false->G=mrk u) then (flL (fl n) t.bs u.bs).map fun b=>(kept k (mrk u - G) ++ b.1,b.2) else none))
local macro_rules|`((35:))=>`((go 3 st u ⟨none,[[]]⟩))
local macro_rules|`((36:))=>`((Heap.lt_size e))
local macro_rules|`((37:))=>`(⟨by decide,by decide⟩)
local macro_rules|`((38:))=>`((∀ σ' H',N σ' H'->∃ m',m' < m/\W (i + 1) m' σ' H'))
local macro_rules|`((39:))=>`((ps.map fun p=>V.ref p.1))
local macro_rules|`((40:))=>`((Tree Str))
local macro_rules|`((41:))=>`(⟨o,e,fun v z=>by rw [d] at z;cases z⟩)
local macro_rules|`((42:))=>`((x == ("__debug__" : Str)))
local macro_rules|`((43:))=>`((Heap.get?_push_of_some _ (Heap.get?_push_size _ rfl)))
local macro_rules|`((44:))=>`((c / 64 % 26 + (c / 1664 % 3 * (j:Int)+if (j:Int)=c / 8 % (1 + c % 8) then k else 0)))
local macro_rules|`((45:))=>`((fun y H6=>∃ ys,H6 acc=some (.lst ys)/\ys.length < sizeLine/\∃ m',m' < m/\W (i + 1) m' (upd H6 acc (.lst (ys ++ [y])))))
local macro_rules|`((46:))=>`((fun z=>nomatch z))
local macro_rules|`((47:))=>`(⟨k z (22:) _ U,k TI (22:) _ J,⟨u,v,k TO (22:) _ L⟩,h1.at fun o e=>k i1 (22:) o e,h2.at fun o e=>k i2 (22:) o e⟩)
local macro_rules|`((48:))=>`((k == NameKind.free && env.scope.kind == .function && env.kindOf n == some .cell))
local macro_rules|`((49:))=>`((Qa (pv 0) (Qa (Qd) Qc)))
local macro_rules|`((50:))=>`((List.getElem?_eq_some_iff.mp hy))
local macro_rules|`((51:))=>`((oT #[]))
local macro_rules|`((52:))=>`((backTo pos (starEach es X.env)))
local macro_rules|`((53:))=>`((.k (.int 0)))
local macro_rules|`((54:))=>`(⟨_,rfl,ta,_,4,_,rfl,rfl,h1,rfl,tb,_,rfl,.inr h2,_,rfl,ua,_,2,_,rfl,rfl,r1,rfl,ub,_,rfl,.inr r2,rfl,_,rfl,?_⟩)
local macro_rules|`((55:))=>`(⟨q,[u,v],rfl,SqT.of Qb,rfl,u,[v],rfl,v,[],rfl,rfl,⟨[some u,some v],rfl,rfl⟩,hs i u v q ys _ hi U Y M p⟩)
local macro_rules|`((56:))=>`((List V->Hp->VK->Prop))
local macro_rules|`((57:))=>`((fun i ys H'=>H' acc=some (.lst ys)/\Same H H'/\R i ys H'/\ys.length<=i))
local macro_rules|`((58:))=>`(⟨fun vs H Q E h=>absurd h (G vs H Q E),fun A outer s H L U vs Q E _ _ _ _ h=>absurd h (G vs H Q E)⟩)
local macro_rules|`((59:))=>`((QJ X ([x] ++ Zd scope.names) scope cl C fp s₀ H₀))
set_option genSizeOf false
set_option bootstrap.genMatcherCode false
local macro_rules
 | `($m:declModifiers def $i:declId $s:optDeclSig $v:declVal)=>if m.raw.getArgs.all (·.isNone) then `(noncomputable def $i:declId $s:optDeclSig $v:declVal) else Lean.Macro.throwUnsupported
 | `($m:declModifiers abbrev $i:declId $s:optDeclSig $v:declVal)=>if m.raw.getArgs.all (·.isNone) then `(noncomputable abbrev $i:declId $s:optDeclSig $v:declVal) else Lean.Macro.throwUnsupported
abbrev Fg:=PySem.W.Frag
noncomputable section
set_option Elab.async false
set_option linter.all false
set_option maxRecDepth 100000
namespace L2
open PySem PySem.Spec PyProof.Rows
abbrev Key:=Sum Int Str
def Jy:Key->Value->Bool
 | .inl k,v=>Value.isInt k v
 | .inr x,v=>Value.isStrOf x v
def SR(w:World):Key->Int
 | .inl k=>hashInt k
 | .inr x=>hashStr w x
theorem QI:∀{k:Key}{v:Value},Jy k v=true->(∃i t,k=Sum.inl i/\v=Value.int i t)\/(∃x t,k=Sum.inr x/\v=Value.str x t)
 | .inl i,v,h=>by
  obtain⟨t,e⟩:=Value.isInt_shape (k:=i) (v:=v) h;exact .inl ⟨i,t,rfl,e⟩
 | .inr x,v,h=>by
  obtain⟨t,e⟩:=Value.isStrOf_shape (x:=x) (v:=v) h;exact .inr ⟨x,t,rfl,e⟩
theorem Lj(i:Int)(t:Tok):Jy (.inl i) (.int i t)=true:=by simp [Jy,Value.isInt]
theorem G4(x:Str)(t:Tok):Jy (.inr x) (.str x t)=true:=by simp [Jy,Value.isStrOf]
theorem Pt(a b:Int):decide ((Sum.inl a:Key)=Sum.inl b)=(a==b):=by
 by_cases e:a=b
 .subst e;simp
 .have h:¬(Sum.inl a:Key)=Sum.inl b:=λq=>e (Sum.inl.inj q);rw [decide_eq_false h];exact(beq_eq_false_iff_ne.mpr e).symm
theorem O5(a b:Str):decide ((Sum.inr a:Key)=Sum.inr b)=decide (a=b):=by
 by_cases e:a=b
 .subst e;simp
 .have h:¬(Sum.inr a:Key)=Sum.inr b:=λq=>e (Sum.inr.inj q);rw [decide_eq_false h,decide_eq_false e]
theorem P4(a:Int)(b:Str):decide ((Sum.inl a:Key)=Sum.inr b)=false:=decide_eq_false (λq=>nomatch q)
theorem P7(a:Str)(b:Int):decide ((Sum.inr a:Key)=Sum.inl b)=false:=decide_eq_false (λq=>nomatch q)
def Qx(prog:Program)(w:World):PySem.KeyKind prog w Key where
 is:=Jy
 hash:=SR w
 inj:=λv a b ha hb=>by
  rcases QI ha with⟨i,t,rfl,rfl⟩ | ⟨x,t,rfl,rfl⟩
  .rcases QI hb with⟨j,u,rfl,e⟩ | ⟨y,u,rfl,e⟩
   .injection e with e1 _;rw [e1]
   .exact nomatch e
  .rcases QI hb with⟨j,u,rfl,e⟩ | ⟨y,u,rfl,e⟩
   .exact nomatch e
   .injection e with e1 _;rw [e1]
 byValue:=λk v h=>by
  rcases QI h with⟨i,t,rfl,rfl⟩ | ⟨x,t,rfl,rfl⟩<;>rfl
 pyHash:=λhv h=>by
  rcases QI hv with⟨i,t,rfl,rfl⟩ | ⟨x,t,rfl,rfl⟩
  .exact wpAny_pyHash_int h
  .exact wpAny_pyHash_str h
 eqBool:=λhu hv h=>by
  rcases QI hu with⟨i,t,rfl,rfl⟩ | ⟨x,t,rfl,rfl⟩
  .rcases QI hv with⟨j,u,rfl,rfl⟩ | ⟨y,u,rfl,rfl⟩
   .rw [Pt]at h;exact wpAny_eqBool_int h
   .rw [P4]at h;exact SeqAt.EqAt.int_str i t y u _ _ _ _ h
  .rcases QI hv with⟨j,u,rfl,rfl⟩ | ⟨y,u,rfl,rfl⟩
   .rw [P7]at h;exact SeqAt.EqAt.str_int x t j u _ _ _ _ h
   .rw [O5]at h;exact wpAny_eqBool_str h
 «strs»:=λk x t v h=>by
  rcases QI h with⟨i,u,rfl,e⟩ | ⟨y,u,rfl,e⟩
  .exact nomatch e
  .injection e with e1 _;subst e1;cases v<;>rfl
theorem WC(prog:Program)(w:World)(i:Int)(t:Tok):(Qx prog w).is (.inl i) (.int i t)=true:=Lj i t
theorem WU(prog:Program)(w:World)(x:Str)(t:Tok):(Qx prog w).is (.inr x) (.str x t)=true:=G4 x t
end L2
namespace L2
open PySem PySem.Spec PyProof.Rows
inductive V where
 | non | bl (b:Bool) | int (i:Int) | str (x:Str) | byt (b:Array UInt8) | flt (b:UInt64) | ref (a:Addr) | ty (n:String)
 deriving DecidableEq
def RelV:V->Value->Prop
 | .non,u=>u=Value.none
 | .bl b,u=>u=Value.bool b
 | .int i,u=>∃t,u=Value.int i t
 | .str x,u=>∃t,u=Value.str x t
 | .byt b,u=>∃t,u=Value.bytes b t
 | .flt b,u=>∃t,u=Value.float b t
 | .ref a,u=>u=Value.ref a
 | .ty n,u=>u=Value.type n
abbrev Vals:List V->List Value->Prop:=Paired RelV
theorem Vals.length{xs:List V}{us:List Value}(r:Vals xs us):xs.length=us.length:=Paired.length r
theorem Vals.get:∀{xs:List V}{us:List Value}{i:Nat}{x:V},Vals xs us->xs[i]?=some x->∃u,us[i]?=some u/\RelV x u
 | _,_,_,_,.nil,e=>by simp at e
 | _,_,0,_,.cons r _,e=>by simp at e;subst e;exact⟨_,rfl,r⟩
 | _,_,i+1,x,.cons _ t,e=>by
  obtain⟨u,h1,h2⟩:=Vals.get (i:=i) (x:=x) t (by simpa using e);exact⟨u,by simpa using h1,h2⟩
theorem Vals.set{x:V}{u:Value}(r:RelV x u):∀{xs:List V}{us:List Value}(i:Nat),Vals xs us->Vals (xs.set i x) (us.set i u)
 | _,_,_,.nil=>.nil
 | _,_,0,.cons _ t=>.cons r t
 | _,_,i+1,.cons q t=>.cons q (Vals.set r i t)
theorem Vals.append:∀{xs ys:List V}{us ws:List Value},Vals xs us->Vals ys ws->Vals (xs++ys) (us++ws)
 | _,_,_,_,.nil,s=>s
 | _,_,_,_,.cons r t,s=>.cons r (Vals.append t s)
theorem Vals.take:∀{xs:List V}{us:List Value}(n:Nat),Vals xs us->Vals (xs.take n) (us.take n)
 | _,_,0,_=>.nil
 | _,_,_+1,.nil=>.nil
 | _,_,n+1,.cons r t=>.cons r (Vals.take n t)
theorem Vals.drop:∀{xs:List V}{us:List Value}(n:Nat),Vals xs us->Vals (xs.drop n) (us.drop n)
 | _,_,0,r=>r
 | _,_,_+1,.nil=>.nil
 | _,_,n+1,.cons _ t=>Vals.drop n t
def RelO:Option V->Option Value->Prop
 | some v,some u=>RelV v u
 | none,none=>True
 | _,_=>False
def KV{κ:Type}:List (κ×V)->List (κ×Value)->Prop:=Paired λ(p:κ×V)(q:κ×Value)=>p.1=q.1/\RelV p.2 q.2
def kV:Key->V
 | .inl i=>.int i
 | .inr x=>.str x
inductive HO where
 /--a list-/
 | lst (xs:List V)
 /--a tuple (never changes)-/
 | tup (xs:List V)
 /--a dict whose keys are ints and texts;one whose keys are tuples of ints and texts (the empty one is both)-/
 | dK (kvs:List (Key×V)) | dT (kvs:List (List Key×V))
 /--a set of ints:its members,its size-/
 | set (S:Int->Bool) (n:Nat)
 /--an instance of the class at C,its dict at dx,its attributes-/
 | ins (C dx:Addr) (fs:List (Str×V))
 /--the dict of the instance at x-/
 | own (x:Addr)
 /--the dict of an exception-/
 | xd (fs:List (Str×V))
 /--a bound method,f of x-/
 | met (f x:Addr)
 /--a range object lo,lo+1,.. below hi-/
 | rng (lo hi:Int)
 /--a thing that is known to the object (the script;a dict while a loop walks it):read,never written while it is so-/
 | frz (o:Obj) (u:HO)
 /--a code object's table-/
 | tbl (ps:Array Value)
 /--any other thing,by what is true of its one object (a def of one's own:SetO a S n:=HO.ext λh=>..)-/
 | ext (φ:Heap->Prop)
abbrev Hp:=Addr->Option HO
def upd(H:Hp)(a:Addr)(o:HO):Hp:=λb=>if b=a then some o else H b
theorem Qb{H:Hp}{a:Addr}{o:HO}:upd H a o a=some o:=by unfold upd;rw [if_pos rfl]
theorem Qh{H:Hp}{a b:Addr}{o:HO}(h:b≠a):upd H a o b=H b:=by unfold upd;rw [if_neg h]
theorem Q3{H:Hp}{a b:Addr}{o u:HO}(h:H a=some o)(h':H b=some u)(d:o≠u):a≠b:=by
 intro e;subst e;rw [h]at h';exact d (Option.some.inj h')
theorem Qi{H:Hp}{a b:Addr}{o:HO}(h:H a=some o)(h':H b=none):a≠b:=by
 intro e;subst e;rw [h]at h';cases h'
section
variable(P:Program)(w:World)
def ObjOk(H:Hp)(h:Heap)(a:Addr):HO->Prop
 | .lst xs=>xs.length<=sizeLine/\∃(its:List Value)(n:Nat),Vals xs its/\h.get? a=some { cls:=.type "list",data:=.seq its.toArray n }
 | .tup xs=>xs.length<=sizeLine/\∃its:List Value,Vals xs its/\IsTup h a its.toArray
 | .dK kvs=>kvs.length<=sizeLine/\(a==sysModules)=false/\∃vs,KV kvs vs/\h.DictOf (Qx P w) a vs
 | .dT kvs=>kvs.length<=sizeLine/\(a==sysModules)=false/\∃xs:List (List Key×Addr×Value),
  Paired (λ(p:List Key×V)(q:List Key×Addr×Value)=>p.1=q.1/\H q.2.1=some (.tup (p.1.map kV))/\RelV p.2 q.2.2) kvs xs/\
  ∃o es ep,h.get? a=some o/\o.ExactDict/\o.data=.dict es ep/\es.toList=xs.map (entryOfKey (tupleKind (Qx P w)))/\(xs.map (·.1)).Nodup
 | .set S n=>h.SetOf (intKind P w) a S n
 | .ins C dx fs=>H dx=some (.own a)/\fs.length<=1000/\dx≠a/\h.get? a=some (PySem.W.instObj C dx)/\
  ∃mA,h.Ns1 dx mA/\(∀f,RelO (fs.lookup f) (mA f))/\PySem.Within mA (fs.map (·.1))
 | .own _=>∃o,h.get? a=some o
 | .xd fs=>∃mA,h.Ns1 a mA/\∀f,RelO (fs.lookup f) (mA f)
 | .rng lo hi=>∃t u v,h.get? a=some { cls:=.type "range",data:=.fields #[.int lo t,.int hi u,.int 1 v] }
 | .frz o u=>h.get? a=some o/\ObjOk H h a u
 | .tbl ps=>h.get? a=some { cls:=.none,data:=.fields ps }
 | .met f x=>h.get? a=some (PySem.W.methodObj (.ref f) (.ref x))
 | .ext φ=>φ h/\(∃o,h.get? a=some o)/\∀h1 h2:Heap,φ h1->(∀o,h1.get? a=some o->h2.get? a=some o)->φ h2
def HOk(H:Hp)(h:Heap):Prop:=∀a o,H a=some o->ObjOk P w H h a o
end
section
variable{P:Program}{w:World}{H H':Hp}{h h':Heap}{a:Addr}{o:HO}
theorem ObjOk.lt(x:ObjOk P w H h a o):a<h.objs.size:=by
 cases o with
 | lst xs=>obtain⟨_,_,_,_,e⟩:=x;exact Heap.lt_size e
 | tup xs=>obtain⟨_,_,_,p⟩:=x;exact p.lt
 | dK kvs=>obtain⟨_,_,_,_,o,_,_,e,_⟩:=x;exact Heap.lt_size e
 | dT kvs=>obtain⟨_,_,_,_,o,_,_,e,_⟩:=x;exact Heap.lt_size e
 | set S n=>obtain⟨o,_,_,_,e,_⟩:=x;exact Heap.lt_size e
 | ins C dx fs=>obtain⟨_,_,_,e,_⟩:=x;exact Heap.lt_size e
 | own y=>obtain⟨_,e⟩:=x;exact Heap.lt_size e
 | xd fs=>obtain⟨_,⟨_,_,_,e,_⟩,_⟩:=x;exact Heap.lt_size e
 | rng lo hi=>obtain⟨_,_,_,e⟩:=x;exact Heap.lt_size e
 | frz G u=>obtain⟨e,_⟩:=x;exact Heap.lt_size e
 | tbl ps=>exact Heap.lt_size (show h.get? a=some _ from x)
 | met f y=>exact Heap.lt_size (show h.get? a=some _ from x)
 | ext J=>obtain⟨_,⟨_,e⟩,_⟩:=x;exact Heap.lt_size e
theorem Paired.mapP{α β:Type}{F G:α->β->Prop}:∀{l₁:List α}{l₂:List β},Paired F l₁ l₂->(∀a b,F a b->G a b)->Paired G l₁ l₂
 | _,_,.nil,_=>.nil
 | _,_,.cons r t,f=>.cons (f _ _ r) (Paired.mapP t f)
theorem ObjOk.stay(x:ObjOk P w H h a o)(k:∀b u,(b=a\/H b=some (.own a))->h.get? b=some u->h'.get? b=some u)
 (ho:∀b,H b=some (.own a)->H' b=some (.own a)) (ht:∀b xs,H b=some (.tup xs)->H' b=some (.tup xs)):ObjOk P w H' h' a o:=by
 induction o with
 | lst xs=>obtain⟨z,its,n,r,e⟩:=x;exact⟨z,its,n,r,k _ _ (.inl rfl) e⟩
 | tup xs=>obtain⟨z,its,r,G,e,c⟩:=x;exact⟨z,its,r,G,k _ _ (.inl rfl) e,c⟩
 | dK kvs=>obtain⟨z,y,vs,r,G,es,J,e,c⟩:=x;exact⟨z,y,vs,r,G,es,J,k _ _ (.inl rfl) e,c⟩
 | dT kvs=>
  obtain⟨z,y,xs,r,G,es,J,e,c⟩:=x;exact⟨z,y,xs,Paired.mapP r λp q z=>⟨z.1,ht _ _ z.2.1,z.2.2⟩,G,es,J,k _ _ (.inl rfl) e,c⟩
 | set S n=>obtain⟨G,es,J,t,e,c⟩:=x;exact⟨G,es,J,t,k _ _ (.inl rfl) e,c⟩
 | ins C dx fs=>
  obtain⟨d,z,ne,e,mA,⟨L,es,J,M,c⟩,r⟩:=x;exact⟨ho _ d,z,ne,k _ _ (.inl rfl) e,mA,⟨L,es,J,k _ _ (.inr d) M,c⟩,r⟩
 | own y=>obtain⟨G,e⟩:=x;exact⟨G,k _ _ (.inl rfl) e⟩
 | xd fs=>obtain⟨mA,⟨L,es,J,e,c⟩,r⟩:=x;exact⟨mA,⟨L,es,J,k _ _ (.inl rfl) e,c⟩,r⟩
 | rng lo hi=>obtain⟨t,u,v,e⟩:=x;exact⟨t,u,v,k _ _ (.inl rfl) e⟩
 | frz G u U=>obtain⟨e,q⟩:=x;exact⟨k _ _ (.inl rfl) e,U q⟩
 | tbl ps=>
  have e:h.get? a=some { cls:=.none,data:=.fields ps }:=x;show h'.get? a=some { cls:=.none,data:=.fields ps };exact k a _ (.inl rfl) e
 | met f y=>
  have e:h.get? a=some (PySem.W.methodObj (.ref f) (.ref y)):=x;show h'.get? a=some (PySem.W.methodObj (.ref f) (.ref y));exact k a _ (.inl rfl) e
 | ext Y=>obtain⟨p,⟨o,e⟩,st⟩:=x;exact⟨st _ _ p λo q=>k _ _ (.inl rfl) q,⟨o,k _ _ (.inl rfl) e⟩,st⟩
theorem HOk.lt(x:HOk P w H h)(e:H a=some o):a<h.objs.size:=(x a o e).lt
theorem HOk.fresh(x:HOk P w H h)(e:h.objs.size<=a):H a=none:=by
 cases q:H a with
 | none=>rfl
 | some u=>exact absurd (Nat.lt_of_lt_of_le (x.lt q) e) (Nat.lt_irrefl _)
theorem HOk.kept(x:HOk P w H h)(k:∀b u,h.get? b=some u->h'.get? b=some u):HOk P w H h':=λa o e=>
 (x a o e).stay (λb u _ q=>k b u q) (λ_ q=>q) λ_ _ q=>q
theorem HOk.laid(x:HOk P w H h)(k:∀b u,h.get? b=some u->h'.get? b=some u)(hp:h.objs.size<=a)(new:ObjOk P w (upd H a o) h' a o):HOk P w (upd H a o) h':=λb u e=>by
 have G:=x.fresh hp
 by_cases J:b=a
 .subst J;rw [Qb]at e;cases e;exact new
 .rw [Qh J]at e;exact(x b u e).stay (λc v _ q=>k c v q) (λc q=>by rw [Qh (Qi q G)];exact q) λc xs q=>by rw [Qh (Qi q G)];exact q
end
def Rd(H:Hp)(a:Addr)(u:HO):Prop:=H a=some u\/∃o,H a=some (.frz o u)
theorem Rd.ok{P:Program}{w:World}{H:Hp}{h:Heap}{a:Addr}{u:HO}(r:Rd H a u)(x:HOk P w H h):ObjOk P w H h a u:=by
 rcases r with r | ⟨o,r⟩
 .exact x a u r
 .obtain⟨_,q⟩:=x a _ r;exact q
def Mut:Option HO->Prop
 | some (.lst _)=>True
 | some (.dK _)=>True
 | some (.dT _)=>True
 | some (.set _ _)=>True
 | some (.ins _ _ _)=>True
 | some (.ext _)=>True
 | _=>False
section
variable{P:Program}{w:World}{H:Hp}{h h':Heap}{x e:Addr}{o':HO}
theorem HOk.write(ok:HOk P w H h)(mu:Mut (H x))(he:e=x\/H e=some (.own x))(k:∀b u,b≠e->h.get? b=some u->h'.get? b=some u)(heo:∃u,h'.get? e=some u)
 (new:ObjOk P w (upd H x o') h' x o'):HOk P w (upd H x o') h':=λb u q=>by
 have J:∀c y,H c=some (.own y)->c≠x:=λc y r z=>by subst z;rw [r]at mu;exact mu
 have M:∀c xs,H c=some (.tup xs)->c≠x:=λc xs r z=>by subst z;rw [r]at mu;exact mu
 by_cases L:b=x
 .subst L;rw [Qb]at q;cases q;exact new
 .rw [Qh L]at q
  by_cases G:b=e
  .have U:H b=some (.own x):=by
    rcases he with z | z
    .exact absurd (G.trans z) L
    .rw [G];exact z
   rw [q]at U;cases U;obtain⟨v,Y⟩:=heo;exact⟨v,by rw [G];exact Y⟩
  .refine(ok b u q).stay (λc v hc r=>k c v ?_ r) (λc r=>by rw [Qh (J c b r)];exact r) λc xs r=>by rw [Qh (M c xs r)];exact r
   rcases hc with rfl | hc
   .exact G
   .rintro rfl;rcases he with z | z
    .exact J c b hc z
    .rw [hc]at z;cases z;exact L rfl
end
structure Un(fs ex:List Addr)(H H':Hp)(h h':Heap):Prop where
 keep:∀b o,h.get? b=some o->H b=none->b∉fs->b∉ex->h'.get? b=some o
 slot:∀b o,h.get? b=some o->H b=none->b∈fs->b∉ex->∃sl,h'.get? b=some { o with slots:=sl }
 free:∀b o,h.get? b=some o->H b=none->b∉ex->H' b=none
 there:∀b o,h.get? b=some o->b∉ex->∃o',h'.get? b=some o'
 tups:∀b xs,H b=some (.tup xs)->H' b=some (.tup xs)
 frzs:∀b o u,H b=some (.frz o u)->H' b=some (.frz o u)
 tbls:∀b ps,H b=some (.tbl ps)->∃more,H' b=some (.tbl (ps++more))
section
variable{fs fs' ex ex':List Addr}{H H1 H2:Hp}{h h1 h2 h':Heap}{a x e:Addr}{o:HO}
theorem Un.any(u:Un fs ex H H1 h h1){b:Addr}{ob:Obj}(q:h.get? b=some ob)(n:H b=none)(hx:b∉ex):∃sl,h1.get? b=some { ob with slots:=sl }:=by
 by_cases G:b∈fs
 .exact u.slot b ob q n G hx
 .exact⟨ob.slots,u.keep b ob q n G hx⟩
theorem Un.kept(k:∀b u,h.get? b=some u->h'.get? b=some u):Un fs ex H H h h':=
 ⟨λb G q _ _ _=>k b G q,λb G q _ _ _=>⟨G.slots,k b G q⟩,λ_ _ _ n _=>n,λb G q _=>⟨G,k b G q⟩,λ_ _ q=>q,λ_ _ _ q=>q,λ_ ps q=>⟨#[],by rw [q];simp⟩⟩
theorem Un.refl:Un fs ex H H h h:=Un.kept λ_ _ q=>q
theorem Un.laid(k:∀b u,h.get? b=some u->h'.get? b=some u)(hp:h.objs.size<=a)(hn:H a=none):Un fs ex H (upd H a o) h h' where
 keep:=λb u q _ _ _=>k b u q
 slot:=λb u q _ _ _=>⟨u.slots,k b u q⟩
 free:=λb u q n _=>by rw [Qh (Nat.ne_of_lt (Nat.lt_of_lt_of_le (Heap.lt_size q) hp))];exact n
 there:=λb u q _=>⟨u,k b u q⟩
 tups:=λb xs q=>by rw [Qh (Qi q hn)];exact q
 frzs:=λb u xs q=>by rw [Qh (Qi q hn)];exact q
 tbls:=λb ps q=>⟨#[],by rw [Qh (Qi q hn),q];simp⟩
theorem Un.write(mu:Mut (H x))(he:e=x\/H e=some (.own x))(k:∀b u,b≠e->h.get? b=some u->h'.get? b=some u)(heo:∃u,h'.get? e=some u):Un fs ex H (upd H x o) h h':=by
 have L:∀b,H b=none->b≠x:=λb n z=>by subst z;rw [n]at mu;exact mu
 have M:∀b,H b=none->b≠e:=λb n z=>by
  subst z;rcases he with r | r
  .exact L b n r
  .rw [n]at r;cases r
 have J:∀b u,H b=some u->¬Mut (some u)->b≠x:=λb u q nm z=>by subst z;rw [q]at mu;exact nm mu
 refine⟨λb u q n _ _=>k b u (M b n) q,λb u q n _ _=>⟨u.slots,k b u (M b n) q⟩,λb u q n _=>by rw [Qh (L b n)];exact n,λb u q _=>?_,λb xs q=>by rw [Qh (J b _ q λz=>z)];exact q,λb u xs q=>by rw [Qh (J b _ q λz=>z)];exact q,λb ps q=>⟨#[],by rw [Qh (J b _ q λz=>z),q];simp⟩⟩
 by_cases G:b=e
 .subst G;exact heo
 .exact⟨u,k b u G q⟩
end
def trk(h:Heap)(H:Hp):List Addr:=(List.range h.objs.size).filter λa=>(H a).isSome
def XU(h:Heap)(H:Hp):Heap:=PySem.W.hideAll h (trk h H)
theorem G5(h:Heap)(H:Hp):(XU h H).objs.size=h.objs.size:=PySem.W.hideAll_size _ _
theorem Mz{h:Heap}{H:Hp}{b:Addr}{o:Obj}(e:h.get? b=some o)(n:H b=none):(XU h H).get? b=some o:=
 PySem.W.hideAll_get _ e λG=>by
  have q:(H b).isSome=true:=(List.mem_filter.mp G).2;rw [n]at q;simp at q
theorem On{h:Heap}{H:Hp}{b:Addr}{o:Obj}(e:(XU h H).get? b=some o):h.get? b=some o/\H b=none:=by
 have G:h.get? b=some o:=PySem.W.of_hideAll (trk h H) e;refine⟨G,?_⟩;cases q:H b with
 | none=>rfl
 | some x=>
  have J:b∈trk h H:=List.mem_filter.mpr ⟨List.mem_range.mpr (Heap.lt_size G),by simp [q]⟩;have z:(XU h H).get? b=none:=PySem.W.hideAll_none (trk h H) J;rw [z]at e;cases e
def NG(g h:Heap)(L:Addr):List (8:):=(List.range h.objs.size).filterMap λa=>if a=L\/(g.get? a).isSome=true then none else(h.get? a).map λo=>(a,o)
def rest(g h:Heap)(L d:Addr):List (8:):=(NG g h L).filter λp=>decide (p.1≠d)
end L2
namespace L2
open PySem PySem.Spec PyProof.Rows
structure Mod(K:Fg)(mg:Str->Option Value)(base:Heap):Prop where
 kin:K.In base
 glob:base.Ns mainGlobals mg
 blt:∃mb,base.Ns builtinsNs mb/\∀x:Str,x≠"__name__"->mb x=bootBuiltins x
 nolimit:base.NoLimit
structure Cx where
 prog:Program
 w:World
 K:Fg
 mg:Str->Option Value
 base:Heap
 A:Around
 N:List Str
 s₀:Shared
 H₀:Hp
 env:Env
 outer:List Env
 stack:List Env
 ex:List Addr
 fn:Str->Bool
 calm:Bool
 pn:List (8:)
 xe:Value->Shared->Prop
def frs(l:List Env):List Addr:=l.filterMap (·.frame)
abbrev Cx.fs(X:Cx):List Addr:=frs X.outer
def Vis(sc:Scope)(x:Str):Prop:=sc.names.lookup x=some .local\/sc.names.lookup x=some .cell\/sc.names.lookup x=some .free
def Loc(sc:Scope)(x:Str):Prop:=sc.names.lookup x=some .local\/sc.names.lookup x=some .cell
def S1(env:Env)(h:Heap)(m:Str->Option Value)(x:Str)(u:Value):Prop:=
 (env.kindOf x=some .local/\m x=some u)\/((env.kindOf x=some .cell\/env.kindOf x=some .free)/\∃c,env.cells.lookup x=some c/\h.IsCell c (some u))
structure Cx.Ok(X:Cx):Prop where
 mod:Mod X.K X.mg X.base
 kind:X.env.scope.kind=.function
 glob:X.env.globals=mainGlobals
 blt:X.env.builtins=builtinsNs
 above:X.s₀.heap.objs.size<=X.env.locals
 inj:∀x y c,X.env.cells.lookup x=some c->X.env.cells.lookup y=some c->x=y
 has:∀x,(X.env.kindOf x=some .cell\/X.env.kindOf x=some .free)->∃c,X.env.cells.lookup x=some c
 cab:∀x c,X.fn x=true->X.env.cells.lookup x=some c->X.s₀.heap.objs.size<=c
 hd:X.calm=true->X.A.handled=none
 frames:X.A.frames=some X.stack
 stk:X.stack=X.outer\/(X.stack=X.env::X.outer/\X.env.frame=some X.env.locals)
 exf:∀b∈X.ex,b≠X.env.locals/\∀x c,X.env.cells.lookup x=some c->c≠b
 bs:∀b o,X.base.get? b=some o->X.s₀.heap.get? b=some o/\X.H₀ b=none
 bsz:X.base.objs.size<=X.s₀.heap.objs.size
 noex:∀b o,X.base.get? b=some o->b∉X.ex
 exfs:∀b∈X.ex,b∉X.fs
 funs:X.s₀.heap.FunFrames X.base X.outer
 frf:∀b∈X.fs,X.H₀ b=none
structure Inv(X:Cx)(pins:List (8:))(σ:List (Option V))(H:Hp)(s:Shared):Prop where
 ok:X.Ok
 os:s.os=X.s₀.os
 bare:AllBare s.gens
 base:Un X.fs X.ex X.H₀ H X.s₀.heap s.heap
 loc:∃m,s.heap.Ns X.env.locals m/\∀(i:Nat)(x:Str)(v:V),X.N[i]?=some x->σ[i]?=some (some v)->Vis X.env.scope x->∃u,RelV v u/\S1 X.env s.heap m x u
 cell:∀x c,X.env.cells.lookup x=some c->∃v,s.heap.IsCell c v
 free:H X.env.locals=none
 freeC:∀x c,X.env.cells.lookup x=some c->H c=none
 pin:∀p∈X.pn++pins,s.heap.get? p.1=some p.2/\H p.1=none/\p.1≠X.env.locals/\p.1∉X.fs/\∀v,p.2.data≠.cell v
 hok:HOk X.prog X.w H s.heap
 len:σ.length=X.N.length
section
variable{X:Cx}{pins:List (8:)}{σ:List (Option V)}{H H':Hp}{s:Shared}{h':Heap}
theorem Cx.Ok.nofr(ok:X.Ok){b:Addr}{o:Obj}(e:X.base.get? b=some o):b∉X.fs:=λG=>by
 have:=(ok.funs.mem G).1;rw [e]at this;cases this
theorem Inv.bs(I:Inv X pins σ H s):∀b o,X.base.get? b=some o->s.heap.get? b=some o/\H b=none:=λb o e=>
 ⟨I.base.keep b o (I.ok.bs b o e).1 (I.ok.bs b o e).2 (I.ok.nofr e) (I.ok.noex b o e),I.base.free b o (I.ok.bs b o e).1 (I.ok.bs b o e).2 (I.ok.noex b o e)⟩
theorem Inv.bk(I:Inv X pins σ H s):∀b o,X.base.get? b=some o->s.heap.get? b=some o:=λb o e=>(I.bs b o e).1
theorem Inv.mod(I:Inv X pins σ H s):Mod X.K X.mg X.base:=I.ok.mod
theorem Inv.kIn(I:Inv X pins σ H s):X.K.In s.heap:=I.ok.mod.kin.keeps I.bk
theorem Inv.lt(I:Inv X pins σ H s):X.env.locals<s.heap.objs.size:=let⟨_,G,_⟩:=I.loc;G.lt
theorem Inv.sz(I:Inv X pins σ H s):X.s₀.heap.objs.size<=s.heap.objs.size:=Nat.le_trans I.ok.above (Nat.le_of_lt I.lt)
theorem Inv.nofs(I:Inv X pins σ H s){a:Addr}(h:s.heap.objs.size<=a):a∉X.fs:=λG=>by
 obtain⟨_,o,J,_⟩:=I.ok.funs.mem G;exact absurd (Nat.lt_of_lt_of_le (Heap.lt_size J) (Nat.le_trans I.sz h)) (Nat.lt_irrefl _)
theorem Inv.cne(I:Inv X pins σ H s):∀x c,X.env.cells.lookup x=some c->c≠X.env.locals:=λx c e z=>by
 obtain⟨v,o,G,J⟩:=I.cell x c e;obtain⟨m,⟨o',es,U,L,M,_⟩,_⟩:=I.loc;rw [z,L]at G;cases G;rw [M]at J;cases J
theorem Inv.funs(I:Inv X pins σ H s):s.heap.FunFrames X.base X.outer:=by
 have all:∀(l:List Env),(∀b∈frs l,b∈X.fs)->X.s₀.heap.FunFrames X.base l->s.heap.FunFrames X.base l:=by
  intro l
  induction l with
  | nil=>intro _ _;trivial
  | cons aa r Y=>
   intro U Z;obtain⟨hk,⟨L,o,G,hn,ho,hd⟩,hr⟩:=Z;have J:L∈X.fs:=U L (by unfold frs;rw [List.filterMap_cons,G];exact List.mem_cons_self);obtain⟨sl,e⟩:=I.base.slot L o ho (I.ok.frf L J) J λz=>I.ok.exfs L z J;exact⟨hk,⟨L,_,G,hn,e,hd⟩,Y (λb M=>U b (by unfold frs;rw [List.filterMap_cons,G];exact List.mem_cons_of_mem _ M)) hr⟩
 exact all X.outer (λ_ M=>M) I.ok.funs
theorem Inv.stack(I:Inv X pins σ H s):s.heap.FunFrames X.base X.stack:=by
 rcases I.ok.stk with e | ⟨e,G⟩
 .rw [e];exact I.funs
 .rw [e];obtain⟨m,J,_⟩:=I.loc;refine .cons (by rw [I.ok.kind];decide) G J ?_ I.funs;exact Heap.get?_none_of_le (Nat.le_trans I.ok.bsz I.ok.above)
theorem Inv.stkSub(I:Inv X pins σ H s):∀b∈frs X.stack,b∈X.env.locals::X.fs:=λb G=>by
 rcases I.ok.stk with e | ⟨e,J⟩
 .rw [e]at G;exact List.mem_cons_of_mem _ G
 .rw [e]at G;unfold frs at G;rw [List.filterMap_cons,J]at G;exact G
theorem Inv.stkFree(I:Inv X pins σ H s):∀b∈frs X.stack,H b=none:=λb hb=>by
 rcases List.mem_cons.mp (I.stkSub b hb)with e | hb
 .rw [e];exact I.free
 .obtain⟨_,o,G,_⟩:=I.ok.funs.mem hb;exact I.base.free b o G (I.ok.frf b hb) λz=>I.ok.exfs b z hb
theorem Inv.step{g':Array GenState}{t':Nat}{d':Drawn}{ch:List Addr}(I:Inv X pins σ H s)
 (hch:∀b∈ch,(b∈X.ex\/X.s₀.heap.objs.size<=b)/\b≠X.env.locals/\(∀x c,X.env.cells.lookup x=some c->c≠b)/\∀p∈X.pn++pins,p.1≠b)
 (keep:∀b o,b≠X.env.locals->b∉X.fs->b∉ch->s.heap.get? b=some o->H b=none->h'.get? b=some o)
 (slot:∀b o,b≠X.env.locals->b∈X.fs->b∉ch->s.heap.get? b=some o->H b=none->∃sl,h'.get? b=some { o with slots:=sl }) (free:∀b o,b∉ch->s.heap.get? b=some o->H b=none->H' b=none)
 (there:∀b o,b∉ch->s.heap.get? b=some o->∃o',h'.get? b=some o')
 (tups:∀b xs,H b=some (.tup xs)->H' b=some (.tup xs)) (frzs:∀b o u,H b=some (.frz o u)->H' b=some (.frz o u)) (tbls:∀b ps,H b=some (.tbl ps)->∃more,H' b=some (.tbl (ps++more)))
 (ns:∀m,s.heap.Ns X.env.locals m->h'.Ns X.env.locals m) (hok:HOk X.prog X.w H' h') (hg:AllBare g'):
 Inv X pins σ H' { s with heap:=h',gens:=g',drawn:=d',toks:=t' }:=by
 have aa:∀b o,X.s₀.heap.get? b=some o->b≠X.env.locals:=λb o e=>Nat.ne_of_lt (Nat.lt_of_lt_of_le (36:) I.ok.above);have U:∀b o,X.s₀.heap.get? b=some o->b∉X.ex->b∉ch:=λb o e G M=>by
  rcases(hch b M).1 with z | z
  .exact G z
  .exact absurd (Nat.lt_of_lt_of_le (36:) z) (Nat.lt_irrefl _)
 have Y:∀x c,X.env.cells.lookup x=some c->∀v,s.heap.IsCell c v->h'.IsCell c v:=λx c e v ⟨o,Z,hd⟩=>by
  have L:c∉ch:=λz=>(hch c z).2.2.1 x c e rfl
  by_cases hc:c∈X.fs
  .obtain⟨sl,q⟩:=slot c o (I.cne x c e) hc L Z (I.freeC x c e);exact⟨_,q,hd⟩
  .exact⟨o,keep c o (I.cne x c e) hc L Z (I.freeC x c e),hd⟩
 refine⟨I.ok,I.os,hg,⟨λb o e n M G=>?_,λb o e n M G=>?_,λb o e n G=>?_,λb o e G=>?_,λb xs e=>tups b xs (I.base.tups b xs e),λb o xs e=>frzs b o xs (I.base.frzs b o xs e),λb ps e=>?_⟩,?_,λx c e=>?_,?_,λx c e=>?_,λp hp=>?_,hok,I.len⟩
 .exact keep b o (aa b o e) M (U b o e G) (I.base.keep b o e n M G) (I.base.free b o e n G)
 .obtain⟨sl,J⟩:=I.base.slot b o e n M G;obtain⟨ab,e2⟩:=slot b _ (aa b o e) M (U b o e G) J (I.base.free b o e n G);exact⟨ab,e2⟩
 .obtain⟨o',J⟩:=I.base.there b o e G;exact free b o' (U b o e G) J (I.base.free b o e n G)
 .obtain⟨o',J⟩:=I.base.there b o e G;exact there b o' (U b o e G) J
 .obtain⟨m1,J⟩:=I.base.tbls b ps e;obtain⟨m2,e2⟩:=tbls b _ J;exact⟨m1++m2,by rw [e2,Array.append_assoc]⟩
 .obtain⟨m,hn,hl⟩:=I.loc;refine⟨m,ns m hn,λi x v J e2 e3=>?_⟩;obtain⟨u,r,l⟩:=hl i x v J e2 e3;refine⟨u,r,?_⟩;rcases l with l | ⟨k,c,e,z⟩
  .exact .inl l
  .exact .inr ⟨k,c,e,Y x c e _ z⟩
 .obtain⟨v,z⟩:=I.cell x c e;exact⟨v,Y x c e v z⟩
 .obtain⟨m,⟨o,_,_,Z,_⟩,_⟩:=I.loc;exact free _ o (λz=>(hch _ z).2.1 rfl) Z I.free
 .obtain⟨v,o,Z,hd⟩:=I.cell x c e;exact free c o (λz=>(hch c z).2.2.1 x c e rfl) Z (I.freeC x c e)
 .obtain⟨e,n,ne,nf,d⟩:=I.pin p hp;have L:p.1∉ch:=λz=>(hch p.1 z).2.2.2 p hp rfl;exact⟨keep p.1 p.2 ne nf L e n,free p.1 p.2 L e n,ne,nf,d⟩
theorem Inv.un{t':Nat}(I:Inv X pins σ H s)(u:Un X.fs [] H H' s.heap h')(hok:HOk X.prog X.w H' h'):Inv X pins σ H' { s with heap:=h',toks:=t' }:=by
 obtain⟨m,⟨o,es,ep,L,r⟩,_⟩:=id I.loc;obtain⟨sl,Y⟩:=u.any L I.free (22:);exact I.step (g':=s.gens) (d':=s.drawn) (ch:=[]) (λ_ z=>nomatch z) (λb o _ J _ e n=>u.keep b o e n J (22:)) (λb o _ J _ e n=>u.slot b o e n J (22:)) (λb o _ e n=>u.free b o e n (22:)) (λb o _ e=>u.there b o e (22:)) u.tups u.frzs u.tbls (λm' Z=>by
  obtain⟨o',M,U,G,r'⟩:=Z;rw [L]at G;cases G;exact⟨_,M,U,Y,r'⟩) hok I.bare
theorem Inv.call{g':Array GenState}{t':Nat}{d':Drawn}{ch:List Addr}(I:Inv X pins σ H s)(u:Un (frs X.stack) ch H H' s.heap h')(hok:HOk X.prog X.w H' h')(hg:AllBare g')
 (hch:∀b∈ch,(b∈X.ex\/X.s₀.heap.objs.size<=b)/\b≠X.env.locals/\(∀x c,X.env.cells.lookup x=some c->c≠b)/\∀p∈X.pn++pins,p.1≠b):
 Inv X pins σ H' { s with heap:=h',gens:=g',drawn:=d',toks:=t' }:=by
 obtain⟨m,⟨o,es,ep,M,r⟩,_⟩:=id I.loc;obtain⟨sl,L⟩:=u.any M I.free λz=>(hch _ z).2.1 rfl;exact I.step (ch:=ch) hch (λb o L Z G e n=>u.keep b o e n (λz=>(List.mem_cons.mp (I.stkSub b z)).elim L Z) G) (λb o _ _ G e n=>u.any e n G) (λb o G e n=>u.free b o e n G) (λb o G e=>u.there b o e G) u.tups u.frzs u.tbls (λm' hm=>by
  obtain⟨o',U,Y,J,r'⟩:=hm;rw [M]at J;cases J;exact⟨_,U,Y,L,r'⟩) hok hg
theorem Inv.turned{t':Nat}{it:Addr}(I:Inv X pins σ H s)(k:∀b o,b≠it->s.heap.get? b=some o->h'.get? b=some o)(hn:H it=none)(hL:it≠X.env.locals)
 (h1:it∈X.ex\/X.s₀.heap.objs.size<=it) (h2:∀x c,X.env.cells.lookup x=some c->c≠it) (h3:∀p∈X.pn++pins,p.1≠it):Inv X pins σ H { s with heap:=h',toks:=t' }:=by
 have J:∀b u,H b=some u->b≠it:=λb u e z=>by rw [z,hn]at e;cases e
 refine I.step (g':=s.gens) (d':=s.drawn) (ch:=[it]) (λb L=>?_) (λb o _ _ G e _=>k b o (λz=>G (by simp [z])) e) (λb o _ _ G e _=>⟨o.slots,k b o (λz=>G (by simp [z])) e⟩) (λ_ _ _ _ n=>n)
  (λb o G e=>⟨o,k b o (λz=>G (by simp [z])) e⟩) (λ_ _ e=>e) (λ_ _ _ e=>e) (λb ps e=>⟨#[],by rw [e];simp⟩) (λm M=>?_) (λb u e=>?_) I.bare
 .have e:b=it:=by simpa using L
  subst e;exact⟨h1,hL,h2,h3⟩
 .obtain⟨o,es,U,Y,r⟩:=M;exact⟨o,es,U,k _ o (Ne.symm hL) Y,r⟩
 .refine(I.hok b u e).stay (λc v G q=>k c v ?_ q) (λ_ q=>q) λ_ _ q=>q;rcases G with z | z
  .rw [z];exact J b u e
  .exact J c _ z
theorem Inv.tok(I:Inv X pins σ H s)(t:Nat):Inv X pins σ H { s with toks:=t }:=I.un (h':=s.heap) (t':=t) Un.refl I.hok
theorem Inv.kept{t':Nat}(I:Inv X pins σ H s)(k:∀b u,s.heap.get? b=some u->h'.get? b=some u):Inv X pins σ H { s with heap:=h',toks:=t' }:=I.un (Un.kept k) (I.hok.kept k)
theorem Inv.laid{a:Addr}{o:HO}{t':Nat}(I:Inv X pins σ H s)(k:∀b u,s.heap.get? b=some u->h'.get? b=some u)(hp:s.heap.objs.size<=a)(new:ObjOk X.prog X.w (upd H a o) h' a o):
 Inv X pins σ (upd H a o) { s with heap:=h',toks:=t' }:=I.un (Un.laid k hp (I.hok.fresh hp)) (I.hok.laid k hp new)
theorem Inv.write{x e:Addr}{o:HO}{t':Nat}(I:Inv X pins σ H s)(mu:Mut (H x))(he:e=x\/H e=some (.own x))(k:∀b u,b≠e->s.heap.get? b=some u->h'.get? b=some u)(heo:∃u,h'.get? e=some u)
 (new:ObjOk X.prog X.w (upd H x o) h' x o):Inv X pins σ (upd H x o) { s with heap:=h',toks:=t' }:=I.un (Un.write mu he k heo) (I.hok.write mu he k heo new)
theorem Inv.pins_of{pins':List (8:)}(I:Inv X pins σ H s)(h:∀p∈pins',s.heap.get? p.1=some p.2/\H p.1=none/\p.1≠X.env.locals/\p.1∉X.fs/\∀v,p.2.data≠.cell v):Inv X pins' σ H s:=
 ⟨I.ok,I.os,I.bare,I.base,I.loc,I.cell,I.free,I.freeC,λp hp=>(List.mem_append.mp hp).elim (λz=>I.pin p (List.mem_append_left _ z)) (h p),I.hok,I.len⟩
theorem WM{N:List Str}(hN:N.Nodup){i j:Nat}{x:Str}(a:N[i]?=some x)(b:N[j]?=some x):i=j:=by
 obtain⟨h1,G⟩:=List.getElem?_eq_some_iff.mp a;obtain⟨h2,J⟩:=List.getElem?_eq_some_iff.mp b;exact(List.getElem_inj hN).mp (G.trans J.symm)
theorem J3{M:Model}{A:Around}{E:Value->Shared->Prop}{i:Nat}{x:Str}{v:V}{u:Value}{Q:Unit->Shared->Prop}(I:Inv X pins σ H s)(hN:X.N.Nodup)(hi:X.N[i]?=some x)(hx:Loc X.env.scope x)(r:RelV v u)
 (h:∀s',Inv X pins (σ.set i (some v)) H s'->(∃a,Heap.SameBut a s.heap s'.heap/\(a=X.env.locals\/X.env.cells.lookup x=some a))->Q () s') (hf:X.fn x=true\/X.env.scope.names.lookup x=some .local:=by first | exact .inl rfl | exact .inr rfl | assumption):wpAny M A (storeName X.env x u) Q E s:=by
 obtain⟨m,hn,hl⟩:=id I.loc;have ag:(X.env.scope.kind== .class||(X.env.scope.kind== .module&&X.env.locals !=X.env.globals))=false:=by rw [I.ok.kind];rfl
 have ac:i<σ.length:=by rw [I.len];exact(List.getElem?_eq_some_iff.mp hi).1
 have cne:=I.cne;have L:∀{a:Addr}{h':Heap},(∃o,s.heap.get? a=some o/\H a=none)->Heap.SameBut a s.heap h'->HOk X.prog X.w H h':=λ{a h'} ha G b ob e=>by
  obtain⟨_,_,aa⟩:=ha;refine(I.hok b ob e).stay (λc w' hc q=>(G.2 c ?_).trans q) (λ_ q=>q) λ_ _ q=>q;rintro rfl;rcases hc with rfl | hc
  .rw [aa]at e;cases e
  .rw [aa]at hc;cases hc
 rcases hx with hk | hk
 .refine wpAny_storeName_local hk hn (λh' ai G=>?_) ag;obtain⟨oL,_,_,aj,_⟩:=id hn;refine h _ ⟨I.ok,I.os,I.bare,⟨λb o e n Y hx=>?_,λb o e n Y hx=>?_,I.base.free,λb o e hx=>?_,I.base.tups,I.base.frzs,I.base.tbls⟩,⟨_,ai,λj y v' J U e3=>?_⟩,λy c e=>?_,I.free,I.freeC,λp hp=>?_,L ⟨oL,aj,I.free⟩ G,by simpa using I.len⟩ ⟨_,G,.inl rfl⟩
  .exact(G.2 b (Nat.ne_of_lt (Nat.lt_of_lt_of_le (36:) I.ok.above))).trans (I.base.keep b o e n Y hx)
  .obtain⟨sl,J⟩:=I.base.slot b o e n Y hx;exact⟨sl,(G.2 b (Nat.ne_of_lt (Nat.lt_of_lt_of_le (36:) I.ok.above))).trans J⟩
  .obtain⟨o',J⟩:=I.base.there b o e hx;exact⟨o',(G.2 b (Nat.ne_of_lt (Nat.lt_of_lt_of_le (36:) I.ok.above))).trans J⟩
  .by_cases Z:j=i
   .subst Z;rw [hi]at J;cases J;rw [List.getElem?_set_self ac]at U;cases U;exact⟨u,r,.inl ⟨hk,by simp⟩⟩
   .rw [List.getElem?_set_ne (Ne.symm Z)]at U;obtain⟨u',r',q⟩:=hl j y v' J U e3;refine⟨u',r',?_⟩;rcases q with⟨k,e⟩ | ⟨k,c,e,z⟩
    .refine .inl ⟨k,?_⟩;have:y≠x:=λe=>Z (WM hN J (e ▸ hi));simp [this,e]
    .exact .inr ⟨k,c,e,z.sameBut G (cne y c e)⟩
  .obtain⟨w',z⟩:=I.cell y c e;exact⟨w',z.sameBut G (cne y c e)⟩
  .obtain⟨e,n,ne,nf,d⟩:=I.pin p hp;exact⟨(G.2 p.1 ne).trans e,n,ne,nf,d⟩
 .have ab:X.fn x=true:=by
   rcases hf with z | z
   .exact z
   .rw [z]at hk;cases hk
  obtain⟨c,hc⟩:=I.ok.has x (.inl hk);obtain⟨w',z⟩:=I.cell x c hc;refine wpAny_storeName_cell I.ok.kind hk hc z (λh' ad G=>?_);obtain⟨oc,ae,ah⟩:=id z;refine h { s with heap:=h' } ⟨I.ok,I.os,I.bare,⟨λb o e n Y hx=>?_,λb o e n Y hx=>?_,I.base.free,λb o e hx=>?_,I.base.tups,I.base.frzs,I.base.tbls⟩,⟨m,hn.sameBut G (Ne.symm (cne x c hc)),λj y v' J U e3=>?_⟩,λy c' e=>?_,I.free,I.freeC,λp hp=>?_,L ⟨oc,ae,I.freeC x c hc⟩ G,by simpa using I.len⟩ ⟨c,G,.inr hc⟩
  .exact(G.2 b (Nat.ne_of_lt (Nat.lt_of_lt_of_le (36:) (I.ok.cab x c ab hc)))).trans (I.base.keep b o e n Y hx)
  .obtain⟨sl,J⟩:=I.base.slot b o e n Y hx;exact⟨sl,(G.2 b (Nat.ne_of_lt (Nat.lt_of_lt_of_le (36:) (I.ok.cab x c ab hc)))).trans J⟩
  .obtain⟨o',J⟩:=I.base.there b o e hx;exact⟨o',(G.2 b (Nat.ne_of_lt (Nat.lt_of_lt_of_le (36:) (I.ok.cab x c ab hc)))).trans J⟩
  .by_cases Z:j=i
   .subst Z;rw [hi]at J;cases J;rw [List.getElem?_set_self ac]at U;cases U;exact⟨u,r,.inr ⟨.inl hk,c,hc,ad⟩⟩
   .rw [List.getElem?_set_ne (Ne.symm Z)]at U;obtain⟨u',r',q⟩:=hl j y v' J U e3;refine⟨u',r',?_⟩;rcases q with q | ⟨k,c',e,z'⟩
    .exact .inl q
    .refine .inr ⟨k,c',e,z'.sameBut G ?_⟩;rintro rfl;exact Z (WM hN J (I.ok.inj _ _ _ e hc ▸ hi))
  .by_cases af:c'=c
   .subst af;exact⟨_,ad⟩
   .obtain⟨w2,z2⟩:=I.cell y c' e;exact⟨w2,z2.sameBut G af⟩
  .obtain⟨e,n,ne,nf,d⟩:=I.pin p hp;refine⟨(G.2 p.1 ?_).trans e,n,ne,nf,d⟩;intro q;rw [q,ae]at e;have q':oc=p.2:=Option.some.inj e;exact d w' (by rw [<-q'];exact ah)
theorem WA{M:Model}{A:Around}{E:Value->Shared->Prop}{i:Nat}{x:Str}{v:V}{u:Value}{Q:Unit->Shared->Prop}(I:Inv X pins σ H s)(hN:X.N.Nodup)(hi:X.N[i]?=some x)(hx:Loc X.env.scope x)(r:RelV v u)
 (h:∀s',Inv X pins (σ.set i (some v)) H s'->Q () s') (hf:X.fn x=true\/X.env.scope.names.lookup x=some .local:=by first | exact .inl rfl | exact .inr rfl | assumption):wpAny M A (storeName X.env x u) Q E s:=
 J3 I hN hi hx r (λs' G _=>h s' G) hf
theorem Inv.call'{s':Shared}{ch:List Addr}(I:Inv X pins σ H s)(ho:s'.os=s.os)(u:Un (frs X.stack) ch H H' s.heap s'.heap)(hok:HOk X.prog X.w H' s'.heap)(hg:AllBare s'.gens)
 (hch:∀b∈ch,(b∈X.ex\/X.s₀.heap.objs.size<=b)/\b≠X.env.locals/\(∀x c,X.env.cells.lookup x=some c->c≠b)/\∀p∈X.pn++pins,p.1≠b):Inv X pins σ H' s':=by
 obtain⟨h',G,J,L,o'⟩:=s';have e:o'=s.os:=ho;subst e;exact I.call (g':=G) (t':=L) (d':=J) u hok hg hch
end
abbrev XK:=Value->Option Addr->Hp->Prop
abbrev St:=List (Option V)
abbrev VK:=V->Hp->Prop
abbrev TE:=St->Hp->VK->Prop
abbrev TT:=St->Hp->(Bool->Hp->Prop)->Prop
abbrev TA:=St->Hp->(List V->Hp->Prop)->Prop
structure Ends where
 nx:St->Hp->Prop
 rt:VK
 bk:St->Hp->Prop:=λ_ _=>False
 ct:St->Hp->Prop:=λ_ _=>False
abbrev TS:=Ends->St->Hp->Prop
def EP(X:Cx)(pins:List (8:))(σ:St)(Q:VK)(u:Value)(s':Shared):Prop:=∃v H',Inv X pins σ H' s'/\RelV v u/\Q v H'
def TP(X:Cx)(pins:List (8:))(σ:St)(Q:Bool->Hp->Prop)(b:Bool)(s':Shared):Prop:=∃H',Inv X pins σ H' s'/\Q b H'
def AP(X:Cx)(pins:List (8:))(σ:St)(Q:List V->Hp->Prop)(us:List Value)(s':Shared):Prop:=∃vs H',Inv X pins σ H' s'/\Vals vs us/\Q vs H'
def SP(X:Cx)(pins:List (8:))(D:Ends)(f:Flow)(s':Shared):Prop:=
 match f with
 | .next=>∃σ' H',Inv X pins σ' H' s'/\D.nx σ' H'
 | .brk=>∃σ' H',Inv X pins σ' H' s'/\D.bk σ' H'
 | .cont=>∃σ' H',Inv X pins σ' H' s'/\D.ct σ' H'
 | .ret u=>∃v σ' H',Inv X pins σ' H' s'/\RelV v u/\D.rt v H'
def PE(X:Cx)(e:Expr)(t:TE):Prop:=
 ∀(pins:List (8:))(s:Shared)(σ:St)(H:Hp)(Q:VK),Inv X pins σ H s->t σ H Q->wpAny (4:) X.A (eval e X.env) (EP X pins σ Q) X.xe s
def PT(X:Cx)(e:Expr)(t:TT):Prop:=
 ∀(pins:List (8:))(s:Shared)(σ:St)(H:Hp)(Q:Bool->Hp->Prop),Inv X pins σ H s->t σ H Q->wpAny (4:) X.A (isTrue e X.env (eval e X.env)) (TP X pins σ Q) X.xe s
def PW(X:Cx)(e:Expr)(t:TT):Prop:=
 ∀(whole:Sem Value)(pins:List (8:))(s:Shared)(σ:St)(H:Hp)(Q:Bool->Hp->Prop),Inv X pins σ H s->t σ H Q->wpAny (4:) X.A (isTrue e X.env whole) (TP X pins σ Q) X.xe s
theorem PW.pt{X:Cx}{e:Expr}{t:TT}(h:PW X e t):PT X e t:=h _
def PA(X:Cx)(es:List Expr)(t:TA):Prop:=
 ∀(pos:Pos)(pins:List (8:))(s:Shared)(σ:St)(H:Hp)(Q:List V->Hp->Prop),Inv X pins σ H s->t σ H Q->wpAny (4:) X.A (spliced (52:)) (AP X pins σ Q) X.xe s
def PS(X:Cx)(st:Stmt)(t:TS):Prop:=
 ∀(pins:List (8:))(s:Shared)(σ:St)(H:Hp)(D:Ends),Inv X pins σ H s->t D σ H->wpAny (4:) X.A (exec st X.env) (SP X pins D) X.xe s
def PSs(X:Cx)(st:List Stmt)(t:TS):Prop:=
 ∀(pins:List (8:))(s:Shared)(σ:St)(H:Hp)(D:Ends),Inv X pins σ H s->t D σ H->wpAny (4:) X.A (execs st X.env) (SP X pins D) X.xe s
theorem thn{α:Type}{t:Sem α}{Q Q':α->Shared->Prop}{M:Model}{A:Around}{E:Value->Shared->Prop}{s:Shared}(h:wpAny M A t Q E s)(hQ:∀a s,Q a s->Q' a s):wpAny M A t Q' E s:=wpAny_mono h hQ λ_ _ x=>x
end L2
namespace L2
open PySem PySem.Spec PyProof.Rows
section
variable{X:Cx}
theorem bin{a b:Expr}{ta tb:TE}(ha:PE X a ta)(hb:PE X b tb){pins:List (8:)}{s:Shared}{σ:St}{H:Hp}{R:V->V->Hp->Prop}(I:Inv X pins σ H s)(h:ta σ H λx H1=>tb σ H1 λy H2=>R x y H2)
 {α:Type} {Q:α->Shared->Prop} {f:Value->Value->Sem α}
 (hf:∀v u s2 x y H2,Inv X pins σ H2 s2->RelV x v->RelV y u->R x y H2->wpAny (4:) X.A (f v u) Q X.xe s2):
 wpAny (4:) X.A (eval a X.env) (λv s₁=>wpAny (4:) X.A (eval b X.env) (λu s₂=>wpAny (4:) X.A (f v u) Q X.xe s₂) X.xe s₁) X.xe s:=by
 refine thn (ha pins s σ H _ I h) λv G ⟨x,H1,J,L,M⟩=>?_;refine thn (hb pins G σ H1 _ J M) λu s2 ⟨y,H2,U,Y,Z⟩=>?_;exact hf v u s2 x y H2 U L Y Z
def Zo(i:Nat):TE:=λσ H Q=>∃v,σ[i]?=some (some v)/\Q v H
def tC(v:V):TE:=λ_ H Q=>Q v H
theorem LP{i:Nat}{x:Str}{pos:Pos}(hN:X.N[i]?=some x)(hv:Vis X.env.scope x)(hd:(42:)=false:=by decide)(hcd:(x==("__classdict__":Str))=false:=by decide):PE X (.Name x pos) (Zo i):=by
 intro pins s σ H Q I h;obtain⟨v,e,h⟩:=h;obtain⟨m,L,M⟩:=I.loc;obtain⟨u,r,l⟩:=M i x v hN e hv;have fin:EP X pins σ Q u s:=⟨v,H,I,r,h⟩;rcases l with⟨hk,U⟩ | ⟨hk,c,J,G⟩
 .exact wpAny_Name (wpAny_loadName_local I.ok.kind hk L U fin) hd
 .rcases hk with hk | hk
  .exact wpAny_Name (wpAny_loadName_cell I.ok.kind hk J G fin) hd
  .exact wpAny_Name (wpAny_loadName_free I.ok.kind hk J G fin hcd) hd
theorem Qd{i j pos}:PE X (.Constant (.int i) j pos) (tC (.int i)):=λ_ _ _ H _ I h=>wpAny_Constant_int ⟨.int i,H,I.tok _,⟨_,rfl⟩,h⟩
theorem ZN{b j pos}:PE X (.Constant (.bool b) j pos) (tC (.bl b)):=λ_ _ _ H _ I h=>Constant_bool ⟨.bl b,H,I,rfl,h⟩
theorem Zq{j pos}:PE X (.Constant .none j pos) (tC .non):=λ_ _ _ H _ I h=>Constant_none ⟨.non,H,I,rfl,h⟩
theorem Zr{x j pos}:PE X (.Constant (.str x) j pos) (tC (.str x)):=λ_ _ _ H _ I h=>Calls.Constant_str ⟨.str x,H,I.tok _,⟨_,rfl⟩,h⟩
def Gl(X:Cx)(x:Str):Prop:=X.env.kindOf x=some .globalImplicit
theorem Gf{E:Value->Shared->Prop}{pins:List (8:)}{s:Shared}{σ:St}{H:Hp}{x:Str}{u:Value}{pos:Pos}{Q:Value->Shared->Prop}(I:Inv X pins σ H s)(hg:Gl X x)(hm:X.mg x=some u)(h:Q u s)
 (hd:(42:)=false:=by decide):wpAny (4:) X.A (eval (.Name x pos) X.env) Q E s:=
 Calls.Name_function_global I.ok.kind hg (Calls.loadGlobal_global (by rw [I.ok.glob];exact I.mod.glob.keeps I.bk) hm h) hd
theorem Z7{E:Value->Shared->Prop}{pins:List (8:)}{s:Shared}{σ:St}{H:Hp}{x:Str}{u:Value}{pos:Pos}{Q:Value->Shared->Prop}(I:Inv X pins σ H s)(hg:Gl X x)(hm:X.mg x=none)(hv:bootBuiltins x=some u)(h:Q u s)
 (hn:x≠"__name__":=by decide) (hd:(42:)=false:=by decide):wpAny (4:) X.A (eval (.Name x pos) X.env) Q E s:=by
 obtain⟨G,h1,h2⟩:=I.mod.blt;exact Calls.Name_function_global I.ok.kind hg (Calls.loadGlobal_builtin (by rw [I.ok.glob];exact I.mod.glob.keeps I.bk) hm (by rw [I.ok.blt];exact h1.keeps I.bk) ((h2 x hn).trans hv) h) hd
theorem Zt{x:Str}{v:V}{u:Value}{pos:Pos}(hg:Gl X x)(hm:X.mg x=none)(hv:bootBuiltins x=some u)(r:RelV v u)(hn:x≠"__name__":=by decide)(hd:(42:)=false:=by decide):PE X (.Name x pos) (tC v):=
 λ_ _ _ H _ I h=>Z7 I hg hm hv ⟨v,H,I,r,h⟩ hn hd
variable{a b:Expr}{ta tb:TE}{pos:Pos}
def PC(X:Cx)(op:CmpOp)(a b:Expr)(t:TE):Prop:=
 ∀(pins:List (8:))(s:Shared)(σ:St)(H:Hp)(Q:VK),Inv X pins σ H s->t σ H Q->
  wpAny (4:) X.A (eval a X.env) (λv s₁=>wpAny (4:) X.A (eval b X.env) (λu s₂=>wpAny (4:) X.A (compareOp op v u) (EP X pins σ Q) X.xe s₂) X.xe s₁) X.xe s
theorem Mx(b:Expr){op:CmpOp}(h:op≠.In)(h2:op≠.NotIn):behindInMarks op b=false:=by
 have G:(op==CmpOp.In)=false:=by cases op<;>first | rfl | exact absurd rfl h
 have J:(op==CmpOp.NotIn)=false:=by cases op<;>first | rfl | exact absurd rfl h2
 cases b<;>simp [behindInMarks,G,J]
def S6(ta:TE):TE:=λσ H Q=>ta σ H λx H1=>Q (.bl (decide (x=.non))) H1
def Sk(ta:TE):TE:=λσ H Q=>ta σ H λx H1=>Q (.bl (!decide (x=.non))) H1
theorem RelV.none_iff{x:V}{v:Value}(r:RelV x v):(v==Value.none)=decide (x=.non):=by
 cases x with
 | non=>cases r;rfl
 | bl _=>cases r;rfl
 | int _=>obtain⟨t,rfl⟩:=r;rfl
 | str _=>obtain⟨t,rfl⟩:=r;rfl
 | byt _=>obtain⟨t,rfl⟩:=r;rfl
 | flt _=>obtain⟨t,rfl⟩:=r;rfl
 | ref _=>cases r;rfl
 | ty _=>cases r;rfl
theorem Jq{j pos'}(ha:PE X a ta):PC X .Is a (.Constant .none j pos') (S6 ta):=by
 intro pins s σ H Q I h;refine thn (ha pins s σ H _ I h) λv M ⟨x,H1,G,J,L⟩=>?_;exact Constant_none (is_none_gen ⟨.bl _,H1,G,by rw [J.none_iff];rfl,L⟩)
theorem V2{j pos'}(ha:PE X a ta):PC X .IsNot a (.Constant .none j pos') (Sk ta):=by
 intro pins s σ H Q I h;refine thn (ha pins s σ H _ I h) λv M ⟨x,H1,G,J,L⟩=>?_;exact Constant_none (isnot_none_gen ⟨.bl _,H1,G,by rw [J.none_iff];rfl,L⟩)
def tB(t:TE):TT:=λσ H Q=>t σ H λx H1=>∃c,x=.bl c/\Q c H1
theorem YQ{op:CmpOp}{t:TE}(h:PC X op a b t)(h1:behindInMarks op b=false:=by first | exact Mx _ (12:) (12:) | rfl):PT X (.Compare a [op] [b] pos) (tB t):=by
 intro pins s σ H Q I G;refine wpAny_isTrue_Compare1 (thn (h pins s σ H _ I G) λv U h1=>thn h1 λu Y h2=>thn h2 λc Z ⟨x,H1,J,L,M⟩=>?_) h1;obtain⟨d,rfl,q⟩:=M;cases L;exact wpAny_truthy_bool ⟨H1,J,q⟩
theorem QS{e:Expr}{t:TE}(h:PE X e t)(he:∀whole,isTrue e X.env whole=(do let v <-whole;standAt e.pos;holding [v] (truthy v)):=by intro _;rfl):PT X e (tB t):=by
 intro pins s σ H Q I G;refine isTrue_plain (thn (h pins s σ H _ I G) λv U ⟨x,H1,J,L,M⟩=>?_) (he _);obtain⟨d,rfl,q⟩:=M;cases L;exact wpAny_truthy_bool ⟨H1,J,q⟩
variable{tA tB':TT}{rest:List Expr}
def Tk(t u:TT):TT:=λσ H Q=>t σ H λc H1=>if c=true then u σ H1 Q else Q false H1
def tOr(t u:TT):TT:=λσ H Q=>t σ H λc H1=>if c=true then Q true H1 else u σ H1 Q
def Ta(t:TT):TT:=λσ H Q=>t σ H λc H1=>Q (!c) H1
theorem pw_and1(ha:PT X a tA):PW X (.BoolOp .And [a] pos) tA:=by
 intro wh pins s σ H Q I h;refine isTrue_and (thn (ha pins s σ H Q I h) λc G e=>?_);cases c with
 | true=>exact isTrue_and_nil e
 | false=>exact e
theorem pw_or1(ha:PT X a tA):PW X (.BoolOp .Or [a] pos) tA:=by
 intro wh pins s σ H Q I h;refine isTrue_or (thn (ha pins s σ H Q I h) λc G e=>?_);cases c with
 | false=>exact isTrue_or_nil e
 | true=>exact e
theorem pw_and(ha:PT X a tA)(hb:PW X (.BoolOp .And (b::rest) pos) tB'):PW X (.BoolOp .And (a::b::rest) pos) (Tk tA tB'):=by
 intro wh pins s σ H Q I h;refine isTrue_and (thn (ha pins s σ H _ I h) λc L ⟨H1,G,J⟩=>?_);cases c with
 | true=>exact hb wh pins L σ H1 Q G J
 | false=>exact⟨H1,G,J⟩
theorem pw_or(ha:PT X a tA)(hb:PW X (.BoolOp .Or (b::rest) pos) tB'):PW X (.BoolOp .Or (a::b::rest) pos) (tOr tA tB'):=by
 intro wh pins s σ H Q I h;refine isTrue_or (thn (ha pins s σ H _ I h) λc L ⟨H1,G,J⟩=>?_);cases c with
 | true=>exact⟨H1,G,J⟩
 | false=>exact hb wh pins L σ H1 Q G J
theorem Zh(ha:PT X a tA):PT X (.UnaryOp .Not a pos) (Ta tA):=by
 intro pins s σ H Q I h;exact isTrue_not (ha pins s σ H (λc H1=>Q (!c) H1) I h)
def SC(ta tb:TE):TE:=λσ H Q=>ta σ H λx H1=>∃c,x=.bl c/\if c=true then tb σ H1 Q else Q (.bl false) H1
def TH(ta tb:TE):TE:=λσ H Q=>ta σ H λx H1=>∃c,x=.bl c/\if c=true then Q (.bl true) H1 else tb σ H1 Q
def Rr(ta:TE):TE:=λσ H Q=>ta σ H λx H1=>∃c,x=.bl c/\Q (.bl (!c)) H1
theorem VD{op}{t:TE}(h:PE X a t):PE X (.BoolOp op [a] pos) t:=λpins s σ H Q I G=>BoolOp_one (h pins s σ H Q I G)
theorem Vc(ha:PE X a ta)(hb:PE X (.BoolOp .And (b::rest) pos) tb):PE X (.BoolOp .And (a::b::rest) pos) (SC ta tb):=by
 intro pins s σ H Q I h;refine BoolOp_and (thn (ha pins s σ H _ I h) λv L ⟨x,H1,J,M,G⟩=>?_);obtain⟨c,rfl,G⟩:=G;cases M;refine wpAny_truthy_bool ?_;cases c with
 | true=>exact hb pins L σ H1 Q J G
 | false=>exact⟨.bl false,H1,J,rfl,G⟩
theorem Ru(ha:PE X a ta)(hb:PE X (.BoolOp .Or (b::rest) pos) tb):PE X (.BoolOp .Or (a::b::rest) pos) (TH ta tb):=by
 intro pins s σ H Q I h;refine BoolOp_or (thn (ha pins s σ H _ I h) λv L ⟨x,H1,J,M,G⟩=>?_);obtain⟨c,rfl,G⟩:=G;cases M;refine wpAny_truthy_bool ?_;cases c with
 | false=>exact hb pins L σ H1 Q J G
 | true=>exact⟨.bl true,H1,J,rfl,G⟩
theorem LW(ha:PE X a ta):PE X (.UnaryOp .Not a pos) (Rr ta):=by
 intro pins s σ H Q I h;refine UnaryOp_ (thn (ha pins s σ H _ I h) λv M ⟨x,H1,J,L,G⟩=>?_);obtain⟨c,rfl,G⟩:=G;cases L;exact not_of (wpAny_truthy_bool ⟨.bl (!c),H1,J,rfl,G⟩)
def tIf(t:TT)(ta tb:TE):TE:=λσ H Q=>t σ H λc H1=>if c=true then ta σ H1 Q else tb σ H1 Q
theorem Jz{c:Expr}(hc:PT X c tA)(ha:PE X a ta)(hb:PE X b tb):PE X (.IfExp c a b pos) (tIf tA ta tb):=by
 intro pins s σ H Q I h;refine wpAny_IfExp (thn (hc pins s σ H _ I h) λd G ⟨H1,J,L⟩=>?_);cases d with
 | true=>exact ha pins G σ H1 Q J L
 | false=>exact hb pins G σ H1 Q J L
end
end L2
namespace L2
open PySem PySem.Spec PyProof.Rows
def SqL(K:Fg)(H:Hp)(a:Addr)(xs:List V):Prop:=
 Rd H a (.lst xs) \/
  ∃(o:Obj)(its:Array Value)(n:Nat),K.lookup a=some o/\o.cls=.type "list"/\ o.dict=none/\o.data=.seq its n/\its.size<=sizeLine/\Vals xs its.toList
def SqT(K:Fg)(H:Hp)(a:Addr)(xs:List V):Prop:=
 Rd H a (.tup xs) \/
  ∃(o:Obj)(its:Array Value)(n:Nat),K.lookup a=some o/\o.cls=.type "tuple"/\ o.data=.seq its n/\its.size<=sizeLine/\Vals xs its.toList
def Tr:Value->Option V
 | .none=>some .non
 | .bool b=>some (.bl b)
 | .int i _=>some (.int i)
 | .str x _=>some (.str x)
 | .bytes b _=>some (.byt b)
 | .float b _=>some (.flt b)
 | .ref a=>some (.ref a)
 | .type n=>some (.ty n)
 | _=>none
theorem RelV.abs{x:V}{u:Value}(r:RelV x u):Tr u=some x:=by
 cases x with
 | non=>cases r;rfl
 | bl _=>cases r;rfl
 | int _=>obtain⟨t,rfl⟩:=r;rfl
 | str _=>obtain⟨t,rfl⟩:=r;rfl
 | byt _=>obtain⟨t,rfl⟩:=r;rfl
 | flt _=>obtain⟨t,rfl⟩:=r;rfl
 | ref _=>cases r;rfl
 | ty _=>cases r;rfl
theorem RelV.inj{x y:V}{u:Value}(r:RelV x u)(q:RelV y u):x=y:=Option.some.inj (r.abs.symm.trans q.abs)
theorem Vals.inj:∀{xs ys:List V}{us:List Value},Vals xs us->Vals ys us->xs=ys
 | _,_,_,.nil,.nil=>rfl
 | _,_,_,.cons r t,.cons G J=>by rw [r.inj G,Vals.inj t J]
section
variable{X:Cx}{pins:List (8:)}{σ:St}{H:Hp}{s:Shared}{a:Addr}{xs ys:List V}
theorem SqL.of{K:Fg}(h:H a=some (.lst xs)):SqL K H a xs:=.inl (.inl h)
theorem SqT.of{K:Fg}(h:H a=some (.tup xs)):SqT K H a xs:=.inl (.inl h)
theorem Inv.list(I:Inv X pins σ H s)(h:SqL X.K H a xs):∃its:List Value,Vals xs its/\PlainL s.heap a its.toArray/\xs.length<=sizeLine:=by
 rcases h with h | ⟨o,its,n,G,J,L,M,U,r⟩
 .obtain⟨z,its,n,r,e⟩:=h.ok I.hok;exact⟨its,r,⟨_,n,e,rfl,rfl,rfl⟩,z⟩
 .refine⟨its.toList,r,⟨o,n,I.kIn a o G,J,L,by simpa using M⟩,?_⟩;have e:=r.length;simp only [Array.length_toList]at e;lia
theorem Inv.tuple(I:Inv X pins σ H s)(h:SqT X.K H a xs):∃its:List Value,Vals xs its/\IsTup s.heap a its.toArray/\xs.length<=sizeLine:=by
 rcases h with h | ⟨o,its,n,G,J,L,M,r⟩
 .obtain⟨z,its,r,p⟩:=h.ok I.hok;exact⟨its,r,p,z⟩
 .refine⟨its.toList,r,⟨o,I.kIn a o G,J,n,by simpa using L⟩,?_⟩;have e:=r.length;simp only [Array.length_toList]at e;lia
theorem Inv.list_inj(I:Inv X pins σ H s)(h:SqL X.K H a xs)(h':SqL X.K H a ys):xs=ys:=by
 obtain⟨its,r,⟨o,n,e,_,_,d⟩,_⟩:=I.list h;obtain⟨G,M,⟨o',Y,J,_,_,L⟩,_⟩:=I.list h';rw [e]at J;cases J;rw [d]at L;injection L with U _;have:its=G:=by simpa using congrArg Array.toList U
 subst this;exact r.inj M
theorem Inv.tuple_inj(I:Inv X pins σ H s)(h:SqT X.K H a xs)(h':SqT X.K H a ys):xs=ys:=by
 obtain⟨its,r,⟨o,e,_,n,d⟩,_⟩:=I.tuple h;obtain⟨G,M,⟨o',J,_,Y,L⟩,_⟩:=I.tuple h';rw [e]at J;cases J;rw [d]at L;injection L with U _;have:its=G:=by simpa using congrArg Array.toList U
 subst this;exact r.inj M
end
abbrev Cx.wish(X:Cx)(E:Value->Shared->Prop):Cx:={ X with xe:=E }
abbrev Cx.nox(X:Cx):Cx:=X.wish λ_ _=>False
theorem Cx.Ok.wish{X:Cx}(ok:X.Ok)(E:Value->Shared->Prop):(X.wish E).Ok:=
 ⟨ok.mod,ok.kind,ok.glob,ok.blt,ok.above,ok.inj,ok.has,ok.cab,ok.hd,ok.frames,ok.stk,ok.exf,ok.bs,ok.bsz,ok.noex,ok.exfs,ok.funs,ok.frf⟩
theorem Cx.Ok.unwish{X:Cx}{E:Value->Shared->Prop}(ok:(X.wish E).Ok):X.Ok:=
 ⟨ok.mod,ok.kind,ok.glob,ok.blt,ok.above,ok.inj,ok.has,ok.cab,ok.hd,ok.frames,ok.stk,ok.exf,ok.bs,ok.bsz,ok.noex,ok.exfs,ok.funs,ok.frf⟩
section
variable{X:Cx}{pins:List (8:)}{σ:St}{H:Hp}{s:Shared}{E:Value->Shared->Prop}
theorem Inv.wish(I:Inv X pins σ H s)(E:Value->Shared->Prop):Inv (X.wish E) pins σ H s:=⟨I.ok.wish E,I.os,I.bare,I.base,I.loc,I.cell,I.free,I.freeC,I.pin,I.hok,I.len⟩
theorem Inv.unwish(I:Inv (X.wish E) pins σ H s):Inv X pins σ H s:=⟨I.ok.unwish,I.os,I.bare,I.base,I.loc,I.cell,I.free,I.freeC,I.pin,I.hok,I.len⟩
theorem SP.unwish{D:Ends}{f:Flow}{s':Shared}(h:SP (X.wish E) pins D f s'):SP X pins D f s':=by
 cases f with
 | next=>obtain⟨G,H',I,q⟩:=h;exact⟨G,H',I.unwish,q⟩
 | brk=>obtain⟨G,H',I,q⟩:=h;exact⟨G,H',I.unwish,q⟩
 | cont=>obtain⟨G,H',I,q⟩:=h;exact⟨G,H',I.unwish,q⟩
 | ret u=>obtain⟨v,G,H',I,r,q⟩:=h;exact⟨v,G,H',I.unwish,r,q⟩
theorem PSs.nox{st:List Stmt}{t:TS}(h:PSs X.nox st t):PSs X st t:=λpins s σ H D I G=>
 wpAny_mono (h pins s σ H D (I.wish _) G) (λ_ _ q=>q.unwish) λ_ _ z=>False.elim z
end
section
variable{X:Cx}{st:Stmt}{rest:List Stmt}{t u:TS}{e:Expr}{te:TE}{pos:Pos}
def Se:TS:=λD σ H=>D.nx σ H
def SU(t u:TS):TS:=λD σ H=>t { D with nx:=u D } σ H
theorem Qq:PSs X [] Se:=λ_ _ σ H _ I h=>wpAny_execs_nil ⟨σ,H,I,h⟩
theorem Qf(h1:PS X st t)(h2:PSs X rest u):PSs X (st::rest) (SU t u):=by
 intro pins s σ H D I h;refine wpAny_execs_cons (thn (h1 pins s σ H { D with nx:=u D } I h) λf G q=>?_);cases f with
 | next=>
  obtain⟨J,H',L,q⟩:=q;exact h2 pins G J H' D L q
 | ret v=>exact q
 | brk=>exact q
 | cont=>exact q
theorem Qg(h1:PS X st t):PSs X [st] t:=by
 intro pins s σ H D I h;refine wpAny_execs_cons (thn (h1 pins s σ H D I h) λf G q=>?_);cases f with
 | next=>exact wpAny_execs_nil q
 | ret v=>exact q
 | brk=>exact q
 | cont=>exact q
theorem Inv.quiet{pins:List (8:)}{σ:St}{H:Hp}{s:Shared}(I:Inv X pins σ H s):interactive X.env=false:=by simp [interactive,I.ok.kind]
def Rz(te:TE):TS:=λD σ H=>te σ H λ_ H1=>D.nx σ H1
theorem Zw(he:PE X e te)(hs:swapsWith e none pos.line X.env=pure false:=by rfl):PS X (.Expr e pos) (Rz te):=by
 intro pins s σ H D I h;exact wpAny_Expr_any (thn (he pins s σ H _ I h) λv L ⟨x,H1,G,M,J⟩=>⟨σ,H1,G,J⟩) I.quiet hs
def S7(te:TE):TS:=λD σ H=>te σ H D.rt
theorem Ql(he:PE X e te):PS X (.Return (some e) pos) (S7 te):=by
 intro pins s σ H D I h;exact wpAny_Return_some (thn (he pins s σ H _ I h) λv M ⟨x,H1,G,J,L⟩=>⟨x,σ,H1,G,J,L⟩)
def TK(c:TT)(t u:TS):TS:=λD σ H=>c σ H λb H1=>if b=true then t D σ H1 else u D σ H1
theorem QC{c:Expr}{a b:List Stmt}{tc:TT}(hc:PT X c tc)(ha:PSs X a t)(hb:PSs X b u):PS X (.If c a b pos) (TK tc t u):=by
 intro pins s σ H D I h;refine wpAny_If (thn (hc pins s σ H _ I h) λd G ⟨H1,J,L⟩=>?_);cases d with
 | true=>exact ha pins G σ H1 D J L
 | false=>exact hb pins G σ H1 D J L
end
abbrev TG:=V->St->Hp->(St->Hp->Prop)->Prop
abbrev TGs:=List V->St->Hp->(St->Hp->Prop)->Prop
def PG(X:Cx)(target:Expr)(t:TG):Prop:=
 ∀(pins:List (8:))(s:Shared)(σ:St)(H:Hp)(v:V)(u:Value)(Q:St->Hp->Prop),Inv X pins σ H s->RelV v u->t v σ H Q->
  wpAny (4:) X.A (assign target X.env u) (λ_ s'=>∃σ' H',Inv X pins σ' H' s'/\Q σ' H') X.xe s
def PGs(X:Cx)(ts:List Expr)(t:TGs):Prop:=
 ∀(pins:List (8:))(s:Shared)(σ:St)(H:Hp)(vs:List V)(us:List Value)(Q:St->Hp->Prop),Inv X pins σ H s->Vals vs us->t vs σ H Q->
  wpAny (4:) X.A (assignInOrder ((assignEach ts X.env).map (·.2)) us) (λ_ s'=>∃σ' H',Inv X pins σ' H' s'/\Q σ' H') X.xe s
abbrev PK:=V->V->V->Hp->(Hp->Prop)->Prop
def Si(X:Cx)(t:PK):Prop:=
 ∀(pins:List (8:))(s:Shared)(σ:St)(H:Hp)(o i v:V)(ov iv u:Value)(Q:Hp->Prop),Inv X pins σ H s->RelV o ov->RelV i iv->RelV v u->t o i v H Q->
  wpAny (4:) X.A (setItem ov iv u) (λ_ s'=>∃H',Inv X pins σ H' s'/\Q H') X.xe s
section
variable{X:Cx}{pos:Pos}
def QP(i:Nat):TG:=λv σ H Q=>Q (σ.set i (some v)) H
theorem Qt{i:Nat}{x:Str}(hN:X.N.Nodup)(hi:X.N[i]?=some x)(hx:Loc X.env.scope x)(hf:X.fn x=true\/X.env.scope.names.lookup x=some .local:=by first | exact .inl rfl | exact .inr rfl | assumption):PG X (.Name x pos) (QP i):=by
 intro pins s σ H v u Q I r h;exact wpAny_assign_Name (WA I hN hi hx r (λs' G=>⟨_,H,G,h⟩) hf)
def Vk:TGs:=λvs σ H Q=>vs=[]/\Q σ H
def Yd(t:TG)(u:TGs):TGs:=λvs σ H Q=>∃v r,vs=v::r/\t v σ H λσ' H'=>u r σ' H' Q
theorem Zg:PGs X [] Vk:=by
 intro pins s σ H vs G Q I r h;obtain⟨e,h⟩:=h;subst e;cases r;exact assignInOrder_nil ⟨σ,H,I,h⟩
theorem Qy{e:Expr}{es:List Expr}{t:TG}{u:TGs}(h1:PG X e t)(h2:PGs X es u)
 (hs:(assignEach (e::es) X.env).map (·.2)=assign e X.env::(assignEach es X.env).map (·.2):=by rfl):PGs X (e::es) (Yd t u):=by
 intro pins s σ H vs Z Q I r h;obtain⟨v,vr,G,h⟩:=h;subst G;cases r with
 | cons r J=>
  rw [hs];refine assignInOrder_cons (thn (h1 pins s σ H _ _ _ I r h) λ_ L ⟨M,H1,U,Y⟩=>?_);exact h2 pins L M H1 _ _ Q U J Y
def Lp(K:Fg)(n:Nat)(t:TGs):TG:=λv σ H Q=>∃a xs,v=.ref a/\SqT K H a xs/\xs.length=n/\t xs σ H Q
theorem Zs{es:List Expr}{k:Nat}{t:TGs}{n:Nat}(hc:X.calm=true)(h:PGs X es t)
 (hn:(assignEach es X.env).length=n:=by rfl) (hst:(assignEach es X.env).findIdx? (·.1)=none:=by rfl):PG X (.Tuple es k pos) (Lp X.K n t):=by
 intro pins s σ H v u Q I r G;obtain⟨a,xs,L,M,U,G⟩:=G;subst L;cases r;obtain⟨its,J,Y,hz⟩:=I.tuple M;refine assign_Tuple_tuple (I.ok.hd hc) Y (by simp [hn,<-U,J.length]) hst λh' Z=>?_;have I1:Inv X pins σ H { s with heap:=h' }:=I.kept (t':=s.toks) λb o e=>Z b o (Nat.ne_of_lt (36:)) e;exact h pins _ σ H xs _ Q I1 (by simpa using J) G
def TB(to ti:TE)(t:PK):TG:=λv σ H Q=>to σ H λo H1=>ti σ H1 λi H2=>t o i v H2 λH3=>Q σ H3
theorem ML{o i:Expr}{to ti:TE}{t:PK}(ho:PE X o to)(hi:PE X i ti)(hs:Si X t)
 (ha:∀v,assign (.Subscript o i pos) X.env v=(do
  let ov <-holding [v] (eval o X.env)
  let iv <-holding [v,ov] (eval i X.env)
  standAt pos
  holding [v,ov,iv] (setItem ov iv v)
  release [v,ov,iv] []):=by intro _;rfl):PG X (.Subscript o i pos) (TB to ti t):=by
 intro pins s σ H v u Q I r h;rw [ha];refine wpAny_bind (wpAny_holding (thn (ho pins s σ H _ I h) λov G ⟨x,H1,J,L,M⟩=>?_));refine wpAny_bind (wpAny_holding (thn (hi pins G σ H1 _ J M) λiv U ⟨y,H2,Y,Z,q2⟩=>?_));refine wpAny_bind (wpAny_standAt (wpAny_bind (wpAny_holding (thn (hs pins U σ H2 x y v ov iv u _ Y L Z r q2) λ_ s3 ⟨H3,I3,q3⟩=>?_))));exact wpAny_release ⟨σ,H3,I3,q3⟩
def PB(te:TE)(g:TG):TS:=λD σ H=>te σ H λx H1=>g x σ H1 D.nx
theorem Ja{tg e:Expr}{te:TE}{g:TG}(he:PE X e te)(hg:PG X tg g)(hs:swapsWithSole [tg] e pos.line X.env=pure false:=by rfl)(hw:swappedStores [tg] e X.env=pure none:=by rfl)
 (h1:(assignEach [tg] X.env).map (·.2)=[assign tg X.env]:=by rfl):PS X (.Assign [tg] e pos) (PB te g):=by
 intro pins s σ H D I h;refine wpAny_Assign_stores (thn (he pins s σ H _ I h) λv G ⟨x,H1,J,L,M⟩=>?_) hs hw;rw [h1];exact thn (hg pins G σ H1 x v _ J L M) λ_ U q=>q
theorem Qo{i:Nat}{x:Str}{e:Expr}{te:TE}{pos':Pos}(hN:X.N.Nodup)(hi:X.N[i]?=some x)(hx:Loc X.env.scope x)(he:PE X e te)(hs:swapsWith e (some (.Name x pos')) pos.line X.env=pure false:=by rfl)(hf:X.fn x=true\/X.env.scope.names.lookup x=some .local:=by first | exact .inl rfl | exact .inr rfl | assumption):
 PS X (.Assign [.Name x pos'] e pos) (PB te (QP i)):=by
 intro pins s σ H D I h;refine wpAny_Assign_Name (thn (he pins s σ H _ I h) λv U ⟨y,H1,G,J,L⟩=>?_) hs;exact WA G hN hi hx J (λY M=>⟨_,H1,M,L⟩) hf
end
section
variable{X:Cx}{pos:Pos}
def Py(c:TT)(tb:TS):TS:=λD σ H=>∃W:Nat->St->Hp->Prop,(∃m,W m σ H)/\∀m σ H,W m σ H->
 c σ H λb H1=>if b=true then ∃N:St->Hp->Prop,(∀σ' H',N σ' H'->∃m',m'<m/\W m' σ' H')/\tb { D with nx:=N,ct:=N,bk:=D.nx } σ H1 else D.nx σ H1
theorem WS{c:Expr}{body:List Stmt}{tc:TT}{tb:TS}(hp:PassesOwn (4:) X.A X.env X.xe)(hc:PT X c tc)(hb:PSs X body tb):PS X (.While c body [] pos) (Py tc tb):=by
 intro pins s σ H D I h;obtain⟨W,⟨m0,w0⟩,Y⟩:=h;refine wpAny_While (codeAny_whileLoop (λn s'=>∃aa H',Inv X pins aa H' s'/\W n aa H') ?_ m0 ⟨σ,H,I,w0⟩);rintro n s1 ⟨L,H1,I1,w1⟩;refine wpAny_passesOwn hp (thn (hc pins s1 L H1 _ I1 (Y n L H1 w1)) λb s2 ⟨H2,I2,M⟩=>?_);cases b with
 | true=>
  obtain⟨N,hN,M⟩:=M;rw [if_pos rfl];refine wpAny_passesOwn hp (thn (hb pins s2 L H2 _ I2 M) λf s3 U=>?_);cases f with
  | next=>
   obtain⟨G,J,Z,n3⟩:=U;obtain⟨m',hm,w3⟩:=hN G J n3;exact⟨m',hm,G,J,Z,w3⟩
  | cont=>
   obtain⟨G,J,Z,n3⟩:=U;obtain⟨m',hm,w3⟩:=hN G J n3;exact⟨m',hm,G,J,Z,w3⟩
  | brk=>exact U
  | ret v=>exact U
 | false=>
  rw [if_neg Bool.false_ne_true];exact wpAny_execs_nil ⟨L,H2,I2,M⟩
end
structure It where
 go:Nat->Hp->Prop
 yld:Nat->Hp->V->Hp->Prop
 stop:Nat->Hp->Prop
def YH(X:Cx)(pins:List (8:))(H:Hp)(b:Addr):Prop:=
 H b=none/\b≠X.env.locals/\b∉X.fs/\(b∈X.ex\/X.s₀.heap.objs.size<=b)/\(∀x c,X.env.cells.lookup x=some c->c≠b)/\∀p∈X.pn++pins,p.1≠b
theorem Inv.fpOk{X:Cx}{pins:List (8:)}{σ:St}{H H':Hp}{s:Shared}{b:Addr}(I:Inv X pins σ H s)(hb:s.heap.objs.size<=b)(hn:H' b=none):YH X pins H' b:=by
 refine⟨hn,Nat.ne_of_gt (Nat.lt_of_lt_of_le I.lt hb),I.nofs hb,.inr (Nat.le_trans I.sz hb),λx c e z=>?_,λp hp z=>?_⟩
 .obtain⟨v,q⟩:=I.cell x c e;exact absurd (Nat.lt_of_lt_of_le q.lt (by rw [z];exact hb)) (Nat.lt_irrefl _)
 .exact absurd (Nat.lt_of_lt_of_le (Heap.lt_size (I.pin p hp).1) (by rw [z];exact hb)) (Nat.lt_irrefl _)
structure Turn(P:Program)(w:World)(K:Fg)(tg:Expr)(J:It)(fp:List Addr)(it:Addr)(tn:Nat->Heap->Prop):Prop where
 mem:it∈fp
 obj:∀i h,tn i h->∀b∈fp,∃o,h.get? b=some o/\∀v,o.data≠.cell v
 keep:∀i h h',tn i h->(∀b∈fp,∀o,h.get? b=some o->h'.get? b=some o)->tn i h'
 item:∀(X:Cx),X.prog=P->X.w=w->X.K=K->X.calm=true->∀(i:Nat)(pins:List (8:))(s:Shared)(σ:St)(H:Hp)(E:Value->Shared->Prop),Inv X pins σ H s->(∀b∈fp,YH X pins H b)->tn i s.heap->J.go i H->
  wpAny (model P w) X.A (pyNext (.ref it)) (λr s1=>∃u,r=some u/\
   wpAny (model P w) X.A (letOwnedTupleGo tg (.ref it) u) (λ_ s2=>∃x H',Inv X pins σ H' s2/\RelV x u/\J.yld i H x H'/\tn (i+1) s2.heap/\∀b∈fp,H' b=none) E s1) E s
 done:∀(X:Cx),X.prog=P->X.w=w->X.K=K->X.calm=true->∀(i:Nat)(pins:List (8:))(s:Shared)(σ:St)(H:Hp)(E:Value->Shared->Prop),Inv X pins σ H s->(∀b∈fp,YH X pins H b)->tn i s.heap->J.stop i H->
  wpAny (model P w) X.A (pyNext (.ref it)) (λr s1=>r=none/\Inv X pins σ H s1) E s
 self:∀(A:Around)(i:Nat)(s:Shared)(Q:Value->Shared->Prop)(E:Value->Shared->Prop),tn i s.heap->Q (.ref it) s->wpAny (model P w) A (pyIter (.ref it)) Q E s
abbrev TI:=St->Hp->(It->Hp->Prop)->Prop
def PIE(X:Cx)(pins:List (8:))(σ:St)(tg:Expr)(R:It->Hp->Prop)(itv:Value)(s2:Shared):Prop:=
 ∃(it:Addr)(fp:List Addr)(tn:Nat->Heap->Prop)(J:It)(H':Hp),itv=.ref it/\Inv X pins σ H' s2/\Turn X.prog X.w X.K tg J fp it tn/\tn 0 s2.heap/\(∀b∈fp,YH X pins H' b)/\R J H'
def PI(X:Cx)(tg iter:Expr)(wi:TI):Prop:=
 ∀(pins:List (8:))(s:Shared)(σ:St)(H:Hp)(R:It->Hp->Prop),Inv X pins σ H s->wi σ H R->
  wpAny (4:) X.A (eval iter X.env) (λv s1=>wpAny (4:) X.A (pyIter v) (PIE X pins σ tg R) X.xe s1) X.xe s
theorem MX{M:Model}{A:Around}{E:Value->Shared->Prop}{s:Shared}{tg:Expr}{it:Addr}{u:Value}{o:Obj}{n:String}{vs:Array Value}{Q:Unit->Shared->Prop}(ho:s.heap.get? it=some o)(hc:o.cls=.type n)(hd:o.data=.fields vs)
 (hn:["enumerate","zip","dict_itemiterator","dict_reverseitemiterator","odict_iterator","itertools.zip_longest","itertools.pairwise"].contains n=false) (hQ:Q () s):wpAny M A (letOwnedTupleGo tg (.ref it) u) Q E s:=by
 unfold letOwnedTupleGo;cases tg<;>first
  | exact wpAny_pure hQ
  | (cases u<;>first
   | exact wpAny_pure hQ
   | (refine wpAny_bind (wpAny_load ho ?_)
      rw [hc,hd];show wpAny M A (if(["enumerate","zip","dict_itemiterator","dict_reverseitemiterator","odict_iterator","itertools.zip_longest","itertools.pairwise"].contains n&&vs[0]? ==some (rawInt _))=true then _ else _) Q E s;rw [if_neg (by intro h;rw [hn,Bool.false_and]at h;cases h)];exact wpAny_pure hQ))
def Itl(K:Fg)(a:Addr):It:=
 ⟨λi H=>∃xs x,SqL K H a xs/\xs[i]?=some x,λi H x H'=>H'=H/\∀xs,SqL K H a xs->xs[i]?=some x,λi H=>∃xs,SqL K H a xs/\xs.length<=i⟩
def Itt(K:Fg)(a:Addr):It:=
 ⟨λi H=>∃xs x,SqT K H a xs/\xs[i]?=some x,λi H x H'=>H'=H/\∀xs,SqT K H a xs->xs[i]?=some x,λi H=>∃xs,SqT K H a xs/\xs.length<=i⟩
def Itr(lo:Int)(n:Nat):It:=⟨λi _=>i<n,λi H x H'=>H'=H/\x=.int (lo+i),λi _=>n<=i⟩
theorem Lk{P:Program}{w:World}{K:Fg}{tg:Expr}(a it:Addr):Turn P w K tg (Itl K a) [it] it (λi h=>h.IsListIter it a i) where
 mem:=by simp
 obj:=λi h st b G=>by
  have e:b=it:=by simpa using G
  subst e;obtain⟨o,e,c,d⟩:=st;exact(41:)
 keep:=λi h h' st k=>st.at λo e=>k it (22:) o e
 item:=by
  intro X U Y Z hc i pins s σ H E I J st hg;subst U Y Z;obtain⟨xs,x,L,hx⟩:=hg;obtain⟨its,rv,p,hz⟩:=I.list L;obtain⟨u,hu,ru⟩:=rv.get hx;obtain⟨f0,f1,f2,f3,f4,f5⟩:=J it (22:);refine wpAny_pyNext_list_item st p.isList (x:=u) (by simpa using hu) λh' M sb=>?_;have I1:Inv X pins σ H { s with heap:=h' }:=I.turned (t':=s.toks) (λb o G e=>(sb.2 b G).trans e) f0 f1 f3 f4 f5;obtain⟨o,e,c,d⟩:=id M;exact⟨u,rfl,MX (s:={ s with heap:=h' }) e c d (12:) ⟨x,H,I1,ru,⟨rfl,λys hy=>by rw [I.list_inj hy L];exact hx⟩,M,λb G=>(J b G).1⟩⟩
 done:=by
  intro X U Y Z hc i pins s σ H E I J st hg;subst U Y Z;obtain⟨xs,L,hx⟩:=hg;obtain⟨its,rv,p,hz⟩:=I.list L;obtain⟨f0,f1,f2,f3,f4,f5⟩:=J it (22:);have hl:=rv.length;exact wpAny_pyNext_list_end (I.ok.hd hc) st p.isList (by simp;lia) λh' eb=>⟨rfl,I.turned (t':=s.toks) (λb o G e=>eb b o G e) f0 f1 f3 f4 f5⟩
 self:=λ_ _ _ _ _ st h=>wpAny_pyIter_listiter st h
theorem VO{P:Program}{w:World}{K:Fg}{tg:Expr}(a it:Addr):Turn P w K tg (Itt K a) [it] it (λi h=>h.IsTupleIter it a i) where
 mem:=by simp
 obj:=λi h st b G=>by
  have e:b=it:=by simpa using G
  subst e;obtain⟨o,e,c,d⟩:=st;exact(41:)
 keep:=λi h h' st k=>st.at λo e=>k it (22:) o e
 item:=by
  intro X U Y Z hc i pins s σ H E I J st hg;subst U Y Z;obtain⟨xs,x,L,hx⟩:=hg;obtain⟨its,rv,p,hz⟩:=I.tuple L;obtain⟨u,hu,ru⟩:=rv.get hx;obtain⟨f0,f1,f2,f3,f4,f5⟩:=J it (22:);refine wpAny_pyNext_tuple_item st (show s.heap.IsTuple a its.toArray from p) (x:=u) (by simpa using hu) λh' M sb=>?_;have I1:Inv X pins σ H { s with heap:=h' }:=I.turned (t':=s.toks) (λb o G e=>(sb.2 b G).trans e) f0 f1 f3 f4 f5;obtain⟨o,e,c,d⟩:=id M;exact⟨u,rfl,MX (s:={ s with heap:=h' }) e c d (12:) ⟨x,H,I1,ru,⟨rfl,λys hy=>by rw [I.tuple_inj hy L];exact hx⟩,M,λb G=>(J b G).1⟩⟩
 done:=by
  intro X U Y Z hc i pins s σ H E I J st hg;subst U Y Z;obtain⟨xs,L,hx⟩:=hg;obtain⟨its,rv,p,hz⟩:=I.tuple L;obtain⟨f0,f1,f2,f3,f4,f5⟩:=J it (22:);have hl:=rv.length;exact wpAny_pyNext_tuple_end (I.ok.hd hc) st (show s.heap.IsTuple a its.toArray from p) (by simp;lia) λh' eb=>⟨rfl,I.turned (t':=s.toks) (λb o G e=>eb b o G e) f0 f1 f3 f4 f5⟩
 self:=λ_ _ _ _ _ st h=>wpAny_pyIter_tupleiter st h
theorem VL{P:Program}{w:World}{K:Fg}{tg:Expr}(it:Addr)(lo:Int)(n:Nat):Turn P w K tg (Itr lo n) [it] it (λi h=>IsRangeIter h it (lo+(i:Nat)*1) ((n:Int)-(i:Nat)) 1) where
 mem:=by simp
 obj:=λi h st b G=>by
  have e:b=it:=by simpa using G
  subst e;exact⟨_,st,λv z=>by
   have z':Data.fields _=Data.cell v:=z;cases z'⟩
 keep:=λi h h' st k=>k it (22:) _ st
 item:=by
  intro X M U Y Z i pins s σ H E I J st hg;subst M U Y;obtain⟨f0,f1,f2,f3,f4,f5⟩:=J it (22:);have W:=Walks.range (prog:=X.prog) (w:=X.w) (I.ok.hd Z) it lo 1 n;refine W.item i s _ _ hg st λv h' tk hv L kk=>?_;obtain⟨t,rfl⟩:=hv;have I1:Inv X pins σ H { s with heap:=h',toks:=tk }:=I.turned (λb o G e=>kk b o (by simpa using G) e) f0 f1 f3 f4 f5;refine⟨_,rfl,MX (s:={ s with heap:=h',toks:=tk }) (n:="range_iterator") L rfl rfl (12:) ⟨.int (lo+i),H,I1,⟨t,?_⟩,⟨rfl,rfl⟩,L,λb G=>(J b G).1⟩⟩;rw [Int.mul_one]
 done:=by
  intro X M U Y Z i pins s σ H E I J st hg;subst M U Y;obtain⟨f0,f1,f2,f3,f4,f5⟩:=J it (22:);exact wpAny_pyNext_range_end (I.ok.hd Z) st (by have:n<=i:=hg;lia) λh' eb=>⟨rfl,I.turned (t':=s.toks) (λb o G e=>eb b o G e) f0 f1 f3 f4 f5⟩
 self:=λ_ _ _ _ _ st h=>wpAny_pyIter_rangeiter st h
end L2
namespace L2
open PySem PySem.Spec PyProof.Rows
section
variable{X:Cx}{tg:Expr}
def Nf(K:Fg)(tl:TE):TI:=λσ H R=>tl σ H λx H1=>∃a,x=.ref a/\(∃xs,SqL K H1 a xs)/\R (Itl K a) H1
def RZ(K:Fg)(tl:TE):TI:=λσ H R=>tl σ H λx H1=>∃a,x=.ref a/\(∃xs,SqT K H1 a xs)/\R (Itt K a) H1
theorem QG{l:Expr}{tl:TE}(hl:PE X l tl):PI X tg l (Nf X.K tl):=by
 intro pins s σ H R I h;refine thn (hl pins s σ H _ I h) λv G ⟨x,H1,J,L,M⟩=>?_;obtain⟨a,e,⟨xs,U⟩,q⟩:=M;subst e;cases L;obtain⟨its,Z,p,hz⟩:=J.list U;refine wpAny_pyIter_list p.isList ?_;refine⟨G.heap.objs.size,[G.heap.objs.size],_,_,H1,rfl,J.kept (t':=G.toks) λb o e=>Heap.get?_push_of_some _ e,Lk a _,⟨_,Heap.get?_push_size _ rfl,rfl,rfl⟩,λb Y=>?_,q⟩;have e:b=G.heap.objs.size:=by simpa using Y
 subst e;exact J.fpOk (5:) (J.hok.fresh (5:))
theorem Yl{l:Expr}{tl:TE}(hl:PE X l tl):PI X tg l (RZ X.K tl):=by
 intro pins s σ H R I h;refine thn (hl pins s σ H _ I h) λv G ⟨x,H1,J,L,M⟩=>?_;obtain⟨a,e,⟨xs,U⟩,q⟩:=M;subst e;cases L;obtain⟨its,Z,p,hz⟩:=J.tuple U;refine wpAny_pyIter_tuple (show G.heap.IsTuple a its.toArray from p) ?_;refine⟨G.heap.objs.size,[G.heap.objs.size],_,_,H1,rfl,J.kept (t':=G.toks) λb o e=>Heap.get?_push_of_some _ e,VO a _,⟨_,Heap.get?_push_size _ rfl,rfl,rfl⟩,λb Y=>?_,q⟩;have e:b=G.heap.objs.size:=by simpa using Y
 subst e;exact J.fpOk (5:) (J.hok.fresh (5:))
theorem Nd{pins:List (8:)}{σ:St}{H:Hp}{s:Shared}{R:It->Hp->Prop}{E:Value->Shared->Prop}{lo hi:Int}{t u v:Tok}{tk:Nat}(I:Inv X pins σ H s)(h1:-(2^62)<=lo)(h2:lo<2^62)(h3:-(2^62)<=hi)(h4:hi<2^62)
 (q:R (Itr lo (hi-lo).toNat) H):wpAny (4:) X.A (pyIter (33:)) (PIE X pins σ tg R) E { s with heap:=s.heap.push { cls:=.type "range",data:=.fields #[.int lo t,.int hi u,.int 1 v] },toks:=tk }:=by
 refine wpAny_pyIter_range (IsRange.new ..) (small_one h1 h2 h3 h4) ?_;have G:Inv X pins σ H { s with heap:=s.heap.push { cls:=.type "range",data:=.fields #[.int lo t,.int hi u,.int 1 v] },toks:=tk }:=I.kept λb o e=>Heap.get?_push_of_some _ e;refine⟨(s.heap.push { cls:=.type "range",data:=.fields #[.int lo t,.int hi u,.int 1 v] }).objs.size,[(s.heap.push { cls:=.type "range",data:=.fields #[.int lo t,.int hi u,.int 1 v] }).objs.size],_,_,H,rfl,G.kept (t':=tk) λb o e=>Heap.get?_push_of_some _ e,VL _ lo (hi-lo).toNat,?_,λb J=>?_,q⟩
 .have L:lo+((0:Nat):Int)*1=lo:=by simp
  have M:(((hi-lo).toNat:Nat):Int)-((0:Nat):Int)=Builtin.Range.rangeSize lo hi 1:=by rw [rangeSize_one];split<;>lia
  show IsRangeIter _ _ (lo+((0:Nat):Int)*1) ((((hi-lo).toNat:Nat):Int)-((0:Nat):Int)) 1;rw [L,M];exact Heap.get?_push_size _ rfl
 .have e:b=(s.heap.push { cls:=.type "range",data:=.fields #[.int lo t,.int hi u,.int 1 v] }).objs.size:=by simpa using J
  subst e;exact G.fpOk (5:) (G.hok.fresh (5:))
def Sj(ta:TA):TI:=λσ H R=>ta σ H λvs H1=>∃j:Int,vs=[.int j]/\-(2^62)<=j/\j<2^62/\R (Itr 0 j.toNat) H1
theorem QM{a:Expr}{ta:TA}{p pos:Pos}(hg:Gl X "range")(hm:X.mg "range"=none)(ha:PA X [a] ta)(hs:starEach [a] X.env=[(false,eval a X.env)]:=by rfl):PI X tg (.Call (.Name "range" p) [a] [] pos) (Sj ta):=by
 intro pins s σ H R I h;refine Call_ (Z7 I hg hm boot_range (PyProof.Rows.callWith_type1 (thn (ha pos pins s σ H _ I h) λY Z ⟨vs,H1,J,L,G⟩=>?_) hs rfl));obtain⟨j,e,G,M,q⟩:=G;subst e;cases L with
 | cons r U=>
  cases U;obtain⟨t,rfl⟩:=r;exact call_range_1 (Nd J (3:) (3:) G M (by simpa using q))
def Tf(wi:TI)(g:TG)(tb:TS):TS:=λD σ H=>wi σ H λJ H1=>∃W:Nat->Nat->St->Hp->Prop,(∃m,W 0 m σ H1)/\∀i m σ H,W i m σ H->
 (J.stop i H/\D.nx σ H)\/(J.go i H/\∃N:St->Hp->Prop,(38:)/\∀x H',J.yld i H x H'->g x σ H' λσ2 H2=>tb { D with nx:=N,ct:=N,bk:=D.nx } σ2 H2)
def Us(fp:List Addr)(h:Heap):List (8:):=fp.filterMap λb=>(h.get? b).map λo=>(b,o)
theorem Zp{fp:List Addr}{h:Heap}{b:Addr}{o:Obj}(hb:b∈fp)(e:h.get? b=some o):(b,o)∈Us fp h:=List.mem_filterMap.mpr ⟨b,hb,by rw [e];rfl⟩
theorem GP{fp:List Addr}{h:Heap}{p:Addr×Obj}(hp:p∈Us fp h):p.1∈fp/\h.get? p.1=some p.2:=by
 obtain⟨b,G,e⟩:=List.mem_filterMap.mp hp;cases q:h.get? b with
 | none=>rw [q]at e;cases e
 | some o=>
  rw [q]at e;have J:(b,o)=p:=Option.some.inj e;subst J;exact⟨G,q⟩
theorem Inv.pinned{pins:List (8:)}{σ:St}{H:Hp}{s:Shared}{fp:List Addr}(I:Inv X pins σ H s)(hf:∀b∈fp,YH X pins H b)(ho:∀b∈fp,∃o,s.heap.get? b=some o/\∀v,o.data≠.cell v):Inv X (pins++Us fp s.heap) σ H s:=
 I.pins_of λp hp=>(List.mem_append.mp hp).elim (λz=>I.pin p (List.mem_append_right _ z)) λz=>by
  obtain⟨G,e⟩:=GP z;obtain⟨L,f1,f2,_⟩:=hf p.1 G;obtain⟨o,J,d⟩:=ho p.1 G;rw [e]at J;cases J;exact⟨e,L,f1,f2,d⟩
theorem Inv.unpinned{pins pl:List (8:)}{σ:St}{H:Hp}{s:Shared}(I:Inv X (pins++pl) σ H s):Inv X pins σ H s:=I.pins_of λp hp=>I.pin p (List.mem_append_right _ (List.mem_append_left _ hp))
theorem QL{iter:Expr}{body:List Stmt}{wi:TI}{g:TG}{tb:TS}{pos:Pos}(hp:PassesOwn (4:) X.A X.env X.xe)(hc:X.calm=true)(hi:PI X tg iter wi)(hg:PG X tg g)(hb:PSs X body tb)
 (hs:∀x,foldedSetIterable iter X.env x=pure x:=by intro _;rfl):PS X (.For tg iter body [] pos) (Tf wi g tb):=by
 intro pins s σ H D I h;refine wpAny_For (thn (hi pins s σ H _ I h) λv s1 h1=>thn h1 λal s2 h2=>?_) hs;obtain⟨it,fp,tn,J,H2,e,I2,T,ah,f2,W,⟨m0,w0⟩,af⟩:=h2;subst e;have Y:∀{H':Hp},(∀b∈fp,H' b=none)->∀b∈fp,YH X pins H' b:=λhn b hb=>⟨hn b hb,(f2 b hb).2⟩;refine codeAny_forLoop_any (λn s'=>∃i aa H',Inv X pins aa H' s'/\tn i s'.heap/\(∀b∈fp,H' b=none)/\W i n aa H') ?_ m0 ⟨0,σ,H2,I2,ah,λb hb=>(f2 b hb).1,w0⟩;rintro n s3 ⟨i,ab,H3,I3,ad,ae,w3⟩;rcases af i n ab H3 w3 with⟨ag,qn⟩ | ⟨go,N,hN,step⟩
 .refine wpAny_passesOwn hp (thn (T.done X rfl rfl rfl hc i pins s3 ab H3 X.xe I3 (Y ae) ad ag) λr s4 ⟨hr,I4⟩=>?_);subst hr;exact wpAny_execs_nil ⟨ab,H3,I4,qn⟩
 .refine wpAny_passesOwn hp (thn (T.item X rfl rfl rfl hc i pins s3 ab H3 X.xe I3 (Y ae) ad go) λr s4 ⟨u,hr,h4⟩=>?_);subst hr;refine wpAny_passesOwn hp (thn h4 λ_ s5 ⟨x,H5,I5,r5,y5,ac,ai⟩=>?_);have aj:=I5.pinned (Y ai) (T.obj _ _ ac);refine wpAny_passesOwn hp (thn (hg _ s5 ab H5 x u _ aj r5 (step x H5 y5)) λ_ s6 ⟨ak,H6,I6,q6⟩=>?_);refine wpAny_passesOwn hp (thn (hb _ s6 ak H6 _ I6 q6) λf s7 U=>?_);have Z:∀{G:St}{L:Hp},Inv X (pins++Us fp s5.heap) G L s7->N G L->∃m,m<n/\∃i aa H',Inv X pins aa H' s7/\tn i s7.heap/\(∀b∈fp,H' b=none)/\W i m aa H':=λ{G L} M n7=>by
   obtain⟨m',hm,w7⟩:=hN G L n7;refine⟨m',hm,i+1,G,L,M.unpinned,T.keep _ _ _ ac λb hb o e=>(M.pin (b,o) (List.mem_append_right _ (List.mem_append_right _ (Zp hb e)))).1,λb hb=>?_,w7⟩;obtain⟨o,e,d⟩:=T.obj _ _ ac b hb;exact(M.pin (b,o) (List.mem_append_right _ (List.mem_append_right _ (Zp hb e)))).2.1
  cases f with
  | next=>obtain⟨G,L,M,n7⟩:=U;exact Z M n7
  | cont=>obtain⟨G,L,M,n7⟩:=U;exact Z M n7
  | brk=>obtain⟨G,L,M,U⟩:=U;exact⟨G,L,M.unpinned,U⟩
  | ret v=>obtain⟨x7,G,L,M,r7,U⟩:=U;exact⟨x7,G,L,M.unpinned,r7,U⟩
end
theorem Zn{K:Fg}{a:Addr}{xs:List V}{g:TG}{tb:TS}{D:Ends}{σ:St}{H:Hp}(Pv:Nat->St->Hp->Prop)(h0:Pv 0 σ H)(hl:∀i σ H,i<=xs.length->Pv i σ H->SqL K H a xs)
 (hs:∀i x σ H,xs[i]?=some x->Pv i σ H->g x σ H λσ2 H2=>tb { D with nx:=Pv (i+1),ct:=Pv (i+1),bk:=D.nx } σ2 H2) (hd:∀σ H,Pv xs.length σ H->D.nx σ H):
 ∃W:Nat->Nat->St->Hp->Prop,(∃m,W 0 m σ H)/\∀i m σ H,W i m σ H->
  ((Itl K a).stop i H/\D.nx σ H)\/((Itl K a).go i H/\∃N:St->Hp->Prop,(38:)/\∀x H',(Itl K a).yld i H x H'->g x σ H' λσ2 H2=>tb { D with nx:=N,ct:=N,bk:=D.nx } σ2 H2):=by
 refine⟨λi m σ H=>m=xs.length-i/\i<=xs.length/\Pv i σ H,⟨xs.length,by simp,Nat.zero_le _,h0⟩,?_⟩;rintro i m σ H ⟨rfl,hi,p⟩;have q:=hl i σ H hi p
 by_cases G:i<xs.length
 .refine .inr ⟨⟨xs,xs[i],q,by simp [G]⟩,Pv (i+1),λσ' H' J=>⟨xs.length-(i+1),by lia,rfl,G,J⟩,λx H' y=>?_⟩;obtain⟨e,y⟩:=y;subst e;exact hs i x σ _ (y xs q) p
 .have e:i=xs.length:=by lia
  subst e;exact .inl ⟨⟨xs,q,Nat.le_refl _⟩,hd σ H p⟩
theorem NX{K:Fg}{a:Addr}{xs:List V}{g:TG}{tb:TS}{D:Ends}{σ:St}{H:Hp}(Pv:Nat->St->Hp->Prop)(h0:Pv 0 σ H)(hl:∀i σ H,i<=xs.length->Pv i σ H->SqT K H a xs)
 (hs:∀i x σ H,xs[i]?=some x->Pv i σ H->g x σ H λσ2 H2=>tb { D with nx:=Pv (i+1),ct:=Pv (i+1),bk:=D.nx } σ2 H2) (hd:∀σ H,Pv xs.length σ H->D.nx σ H):
 ∃W:Nat->Nat->St->Hp->Prop,(∃m,W 0 m σ H)/\∀i m σ H,W i m σ H->
  ((Itt K a).stop i H/\D.nx σ H)\/((Itt K a).go i H/\∃N:St->Hp->Prop,(38:)/\∀x H',(Itt K a).yld i H x H'->g x σ H' λσ2 H2=>tb { D with nx:=N,ct:=N,bk:=D.nx } σ2 H2):=by
 refine⟨λi m σ H=>m=xs.length-i/\i<=xs.length/\Pv i σ H,⟨xs.length,by simp,Nat.zero_le _,h0⟩,?_⟩;rintro i m σ H ⟨rfl,hi,p⟩;have q:=hl i σ H hi p
 by_cases G:i<xs.length
 .refine .inr ⟨⟨xs,xs[i],q,by simp [G]⟩,Pv (i+1),λσ' H' J=>⟨xs.length-(i+1),by lia,rfl,G,J⟩,λx H' y=>?_⟩;obtain⟨e,y⟩:=y;subst e;exact hs i x σ _ (y xs q) p
 .have e:i=xs.length:=by lia
  subst e;exact .inl ⟨⟨xs,q,Nat.le_refl _⟩,hd σ H p⟩
theorem Zi{lo:Int}{n:Nat}{g:TG}{tb:TS}{D:Ends}{σ:St}{H:Hp}(Pv:Nat->St->Hp->Prop)(h0:Pv 0 σ H)
 (hs:∀i σ H,i<n->Pv i σ H->g (.int (lo+i)) σ H λσ2 H2=>tb { D with nx:=Pv (i+1),ct:=Pv (i+1),bk:=D.nx } σ2 H2) (hd:∀σ H,Pv n σ H->D.nx σ H):
 ∃W:Nat->Nat->St->Hp->Prop,(∃m,W 0 m σ H)/\∀i m σ H,W i m σ H->
  ((Itr lo n).stop i H/\D.nx σ H)\/((Itr lo n).go i H/\∃N:St->Hp->Prop,(38:)/\∀x H',(Itr lo n).yld i H x H'->g x σ H' λσ2 H2=>tb { D with nx:=N,ct:=N,bk:=D.nx } σ2 H2):=by
 refine⟨λi m σ H=>m=n-i/\i<=n/\Pv i σ H,⟨n,by simp,Nat.zero_le _,h0⟩,?_⟩;rintro i m σ H ⟨rfl,hi,p⟩
 by_cases G:i<n
 .refine .inr ⟨G,Pv (i+1),λσ' H' J=>⟨n-(i+1),by lia,rfl,G,J⟩,λx H' y=>?_⟩;obtain⟨e,y⟩:=y;subst e y;exact hs i σ _ G p
 .have e:i=n:=by lia
  subst e;exact .inl ⟨Nat.le_refl _,hd σ H p⟩
end L2
namespace L2
open PySem PySem.Spec PyProof.Rows
abbrev R2:=V->V->Hp->VK->Prop
def OpR(X:Cx)(f:Value->Value->Sem Value)(r:R2):Prop:=
 ∀(pins:List (8:))(s:Shared)(σ:St)(H:Hp)(x y:V)(v u:Value)(Q:VK),Inv X pins σ H s->RelV x v->RelV y u->r x y H Q->
  wpAny (4:) X.A (f v u) (EP X pins σ Q) X.xe s
def QV(X:Cx)(f:Value)(r:List V->Hp->VK->Prop):Prop:=
 ∀(pins:List (8:))(s:Shared)(σ:St)(H:Hp)(xs:List V)(us:List Value)(Q:VK),Inv X pins σ H s->Vals xs us->r xs H Q->
  wpAny (4:) X.A (call f us) (EP X pins σ Q) X.xe s
def tOp(r:R2)(ta tb:TE):TE:=λσ H Q=>ta σ H λx H1=>tb σ H1 λy H2=>r x y H2 Q
def rI(C:Int->Int->Prop)(g:Int->Int->V):R2:=λx y H Q=>∃i j,x=.int i/\y=.int j/\C i j/\Q (g i j) H
def rI0(g:Int->Int->V):R2:=λx y H Q=>∃i j,x=.int i/\y=.int j/\Q (g i j) H
def rU(g:Int->V):V->Hp->VK->Prop:=λx H Q=>∃i,x=.int i/\Q (g i) H
section
variable{X:Cx}{a b c:Expr}{ta tb tc:TE}{pos:Pos}
theorem Ph(ha:PE X a ta)(hb:PE X b tb){pins:List (8:)}{s:Shared}{σ:St}{H:Hp}{R:V->V->Hp->Prop}(I:Inv X pins σ H s)
 (h:ta σ H λx H1=>tb σ H1 λy H2=>R x y H2) {Q:Value->Shared->Prop} {f:Value->Value->Sem Value}
 (hf:∀v u s2 x y H2,Inv X pins σ H2 s2->RelV x v->RelV y u->R x y H2->wpAny (4:) X.A (f v u) Q X.xe s2):
 wpAny (4:) X.A (eval a X.env) (λv s₁=>wpAny (4:) X.A (eval b X.env) (λu s₂=>wpAny (4:) X.A (f v u) Q X.xe s₂) X.xe s₁) X.xe s:=by
 refine thn (ha pins s σ H _ I h) λv G ⟨x,H1,J,L,M⟩=>?_;refine thn (hb pins G σ H1 _ J M) λu s2 ⟨y,H2,U,Y,Z⟩=>?_;exact hf v u s2 x y H2 U L Y Z
theorem Qs{op:Operator}{r:R2}(ho:OpR X (binaryOp op) r)(ha:PE X a ta)(hb:PE X b tb):PE X (.BinOp a op b pos) (tOp r ta tb):=by
 intro pins s σ H Q I h;exact wpAny_BinOp (Ph ha hb I h λv u G x y H2 J L M q=>ho pins G σ H2 x y v u Q J L M q)
theorem opI{f:Value->Value->Sem Value}{C:Int->Int->Prop}{g:Int->Int->Int}
 (rule:∀(i j:Int)(t u:Tok)(s:Shared)(Q:Value->Shared->Prop)(E:Value->Shared->Prop),C i j->Q (.int (g i j) s.toks) { s with toks:=s.toks+1 }->wpAny (4:) X.A (f (.int i t) (.int j u)) Q E s):
 OpR X f (rI C λi j=>.int (g i j)):=by
 intro pins s σ H x y v u Q I G J h;obtain⟨i,j,rfl,rfl,L,q⟩:=h;obtain⟨t,rfl⟩:=G;obtain⟨M,rfl⟩:=J;exact rule i j t M s _ _ L ⟨.int (g i j),H,I.tok _,⟨_,rfl⟩,q⟩
theorem Su{f:Value->Value->Sem Value}{g:Int->Int->Int}
 (rule:∀(i j:Int)(t u:Tok)(s:Shared)(Q:Value->Shared->Prop)(E:Value->Shared->Prop),Q (.int (g i j) s.toks) { s with toks:=s.toks+1 }->wpAny (4:) X.A (f (.int i t) (.int j u)) Q E s):
 OpR X f (rI0 λi j=>.int (g i j)):=by
 intro pins s σ H x y v u Q I G J h;obtain⟨i,j,rfl,rfl,q⟩:=h;obtain⟨t,rfl⟩:=G;obtain⟨L,rfl⟩:=J;exact rule i j t L s _ _ ⟨.int (g i j),H,I.tok _,⟨_,rfl⟩,q⟩
theorem Oa{f:Value->Value->Sem Value}{g:Int->Int->Bool}
 (rule:∀(i j:Int)(t u:Tok)(s:Shared)(Q:Value->Shared->Prop)(E:Value->Shared->Prop),Q (.bool (g i j)) s->wpAny (4:) X.A (f (.int i t) (.int j u)) Q E s):
 OpR X f (rI0 λi j=>.bl (g i j)):=by
 intro pins s σ H x y v u Q I G J h;obtain⟨i,j,rfl,rfl,q⟩:=h;obtain⟨t,rfl⟩:=G;obtain⟨L,rfl⟩:=J;exact rule i j t L s _ _ ⟨.bl (g i j),H,I,rfl,q⟩
def SL(i j:Int):Prop:=0<j/\j<1073741824
def Sm(i j:Int):Prop:=0<=j/\j<=1000000/\i.natAbs<2^64
def CMul(i j:Int):Prop:=(-(2^64)<i/\i<2^64)\/(-(2^64)<j/\j<2^64)
theorem CMul.ok{i j:Int}(h:CMul i j):IntMulOk i j:=by
 rcases h with⟨h1,h2⟩ | ⟨h1,h2⟩
 .exact .of_left (intBits_le_64 h1 h2)
 .exact .of_right (intBits_le_64 h1 h2)
theorem Q6:OpR X (binaryOp .Add) (rI0 λi j=>.int (i+j)):=Su λ_ _ _ _ _ _ _ q=>add_int q
theorem YW:OpR X (binaryOp .Sub) (rI0 λi j=>.int (i-j)):=Su λ_ _ _ _ _ _ _ q=>sub_int q
theorem Z8:OpR X (binaryOp .Mult) (rI CMul λi j=>.int (i*j)):=opI λ_ _ _ _ _ _ _ G q=>mul_int q G.ok
theorem Zu:OpR X (binaryOp .FloorDiv) (rI SL λi j=>.int (i/j)):=opI λi j _ _ _ _ _ G q=>by
 have h1:(0:Int)<j:=G.1;have h2:j<1073741824:=G.2;exact floordiv_int (3:) (by rw [Int.fdiv_eq_ediv_of_nonneg i (3:)];exact q) (.inl (PyProof.noPylong_small (3:)))
theorem Zb:OpR X (binaryOp .Mod) (rI (λ_ j=>0<j) λi j=>.int (i%j)):=opI λi j _ _ _ _ _ G q=>by
 have h1:(0:Int)<j:=G;exact mod_int' (3:) (by rw [Int.fmod_eq_emod_of_nonneg i (3:)];exact q)
theorem Jn:OpR X (binaryOp .Pow) (rI Sm λi j=>.int (i^j.toNat)):=opI λ_ _ _ _ _ _ _ G q=>pow_int_small G.1 G.2.1 G.2.2 q
end
def RJ:V->V->Bool
 | .non,.non=>true | .non,.int _=>true | .int _,.non=>true | .non,.bl _=>true | .bl _,.non=>true | .non,.str _=>true | .str _,.non=>true
 | .int _,.int _=>true | .bl _,.bl _=>true | .str _,.str _=>true | .byt _,.byt _=>true
 | .int _,.str _=>true | .str _,.int _=>true | .bl _,.str _=>true | .str _,.bl _=>true
 | _,_=>false
def rEq:R2:=λx y H Q=>RJ x y=true/\Q (.bl (decide (x=y))) H
def rNe:R2:=λx y H Q=>RJ x y=true/\Q (.bl (!decide (x=y))) H
theorem Gk{i j:Int}:decide (V.int i=V.int j)=(i==j):=by
 rw [Bool.eq_iff_iff];simp
theorem Mq{i j:Bool}:decide (V.bl i=V.bl j)=(i==j):=by
 rw [Bool.eq_iff_iff];simp
theorem Gs{i j:Str}:decide (V.str i=V.str j)=(i==j):=by
 rw [Bool.eq_iff_iff];simp
theorem GF{i j:Array UInt8}:decide (V.byt i=V.byt j)=(i.toList==j.toList):=by
 rw [Bool.eq_iff_iff];cases i;cases j;simp
section
variable{X:Cx}{a b c:Expr}{ta tb tc:TE}{pos:Pos}
theorem QA{pins:List (8:)}{σ:St}{H:Hp}{s:Shared}{Q:VK}{k k':Bool}(I:Inv X pins σ H s)(q:Q (.bl k) H)(e:k=k'):EP X pins σ Q (.bool k') s:=by
 subst e;exact⟨.bl k,H,I,rfl,q⟩
theorem Za:OpR X (compareOp .Eq) rEq:=by
 intro pins s σ H x y v u Q I M G h;obtain⟨L,q⟩:=h;cases x with
 | non=>
  cases M;cases y with
  | non=>cases G;exact PySem.EqNone.eq_none_none (QA I q (22:))
  | bl j=>cases G;exact PySem.EqNone.eq_none_bool (QA I q (22:))
  | int j=>obtain⟨J,rfl⟩:=G;exact PySem.EqNone.eq_none_int (QA I q (22:))
  | str j=>obtain⟨J,rfl⟩:=G;exact PySem.EqNone.eq_none_str (QA I q (22:))
  | _=>exact absurd (show false=true from L) Bool.false_ne_true
 | bl i=>
  cases M;cases y with
  | non=>cases G;exact PySem.EqNone.eq_bool_none (QA I q (22:))
  | bl j=>cases G;exact eq_bool (QA I q Mq)
  | str j=>obtain⟨J,rfl⟩:=G;exact PySem.EqMixed.eq_bool_str (QA I q (22:))
  | _=>exact absurd (show false=true from L) Bool.false_ne_true
 | int i=>
  obtain⟨t,rfl⟩:=M;cases y with
  | non=>cases G;exact PySem.EqNone.eq_int_none (QA I q (22:))
  | int j=>obtain⟨J,rfl⟩:=G;exact eq_int (QA I q Gk)
  | str j=>obtain⟨J,rfl⟩:=G;exact PySem.EqMixed.eq_int_str (QA I q (22:))
  | _=>exact absurd (show false=true from L) Bool.false_ne_true
 | str i=>
  obtain⟨t,rfl⟩:=M;cases y with
  | non=>cases G;exact PySem.EqNone.eq_str_none (QA I q (22:))
  | bl j=>cases G;exact PySem.EqMixed.eq_str_bool (QA I q (22:))
  | int j=>obtain⟨J,rfl⟩:=G;exact PySem.EqMixed.eq_str_int (QA I q (22:))
  | str j=>obtain⟨J,rfl⟩:=G;exact eq_str (QA I q Gs)
  | _=>exact absurd (show false=true from L) Bool.false_ne_true
 | byt i=>
  obtain⟨t,rfl⟩:=M;cases y with
  | byt j=>obtain⟨J,rfl⟩:=G;exact PySem.W.eq_bytes (QA I q GF)
  | _=>exact absurd (show false=true from L) Bool.false_ne_true
 | _=>cases y<;>exact absurd (show false=true from L) Bool.false_ne_true
theorem Ye:OpR X (compareOp .NotEq) rNe:=by
 intro pins s σ H x y v u Q I M G h;obtain⟨L,q⟩:=h;cases x with
 | non=>
  cases M;cases y with
  | non=>cases G;exact PySem.EqNone.ne_none_none (QA I q (22:))
  | bl j=>cases G;exact PySem.EqNone.ne_none_bool (QA I q (22:))
  | int j=>obtain⟨J,rfl⟩:=G;exact PySem.EqNone.ne_none_int (QA I q (22:))
  | str j=>obtain⟨J,rfl⟩:=G;exact PySem.EqNone.ne_none_str (QA I q (22:))
  | _=>exact absurd (show false=true from L) Bool.false_ne_true
 | bl i=>
  cases M;cases y with
  | non=>cases G;exact PySem.EqNone.ne_bool_none (QA I q (22:))
  | bl j=>cases G;exact ne_bool (QA I q (congrArg not Mq))
  | str j=>obtain⟨J,rfl⟩:=G;exact PySem.EqMixed.ne_bool_str (QA I q (22:))
  | _=>exact absurd (show false=true from L) Bool.false_ne_true
 | int i=>
  obtain⟨t,rfl⟩:=M;cases y with
  | non=>cases G;exact PySem.EqNone.ne_int_none (QA I q (22:))
  | int j=>obtain⟨J,rfl⟩:=G;exact ne_int (QA I q (congrArg not Gk))
  | str j=>obtain⟨J,rfl⟩:=G;exact PySem.EqMixed.ne_int_str (QA I q (22:))
  | _=>exact absurd (show false=true from L) Bool.false_ne_true
 | str i=>
  obtain⟨t,rfl⟩:=M;cases y with
  | non=>cases G;exact PySem.EqNone.ne_str_none (QA I q (22:))
  | bl j=>cases G;exact PySem.EqMixed.ne_str_bool (QA I q (22:))
  | int j=>obtain⟨J,rfl⟩:=G;exact PySem.EqMixed.ne_str_int (QA I q (22:))
  | str j=>obtain⟨J,rfl⟩:=G;exact ne_str (QA I q (congrArg not Gs))
  | _=>exact absurd (show false=true from L) Bool.false_ne_true
 | byt i=>
  obtain⟨t,rfl⟩:=M;cases y with
  | byt j=>obtain⟨J,rfl⟩:=G;exact PySem.W.ne_bytes (QA I q (congrArg not GF))
  | _=>exact absurd (show false=true from L) Bool.false_ne_true
 | _=>cases y<;>exact absurd (show false=true from L) Bool.false_ne_true
theorem GD:OpR X (compareOp .Lt) (rI0 λi j=>.bl (decide (i<j))):=Oa λ_ _ _ _ _ _ _ q=>lt_int q
theorem Sb:OpR X (compareOp .LtE) (rI0 λi j=>.bl (decide (i<=j))):=Oa λ_ _ _ _ _ _ _ q=>le_int q
theorem Gd:OpR X (compareOp .Gt) (rI0 λi j=>.bl (decide (j<i))):=Oa λ_ _ _ _ _ _ _ q=>gt_int q
theorem Rq:OpR X (compareOp .GtE) (rI0 λi j=>.bl (decide (j<=i))):=Oa λ_ _ _ _ _ _ _ q=>ge_int q
theorem GU:OpR X (compareOp .Lt) (λx y H Q=>∃i j,x=.str i/\y=.str j/\Q (.bl (decide (i.cps.toList<j.cps.toList))) H):=by
 intro pins s σ H x y v u Q I G J h;obtain⟨i,j,rfl,rfl,q⟩:=h;obtain⟨t,rfl⟩:=G;obtain⟨L,rfl⟩:=J;exact lt_str (QA I q rfl)
theorem PD:OpR X (compareOp .Is) (λx y H Q=>y=.non/\Q (.bl (decide (x=.non))) H):=by
 intro pins s σ H x y v u Q I G J h;obtain⟨rfl,q⟩:=h;cases J;refine is_none_gen (QA I q ?_);cases x<;>first
  | (cases G;rfl)
  | (obtain⟨t,rfl⟩:=G;rfl)
theorem Od:OpR X (compareOp .IsNot) (λx y H Q=>y=.non/\Q (.bl (!decide (x=.non))) H):=by
 intro pins s σ H x y v u Q I G J h;obtain⟨rfl,q⟩:=h;cases J;refine isnot_none_gen (QA I q ?_);cases x<;>first
  | (cases G;rfl)
  | (obtain⟨t,rfl⟩:=G;rfl)
theorem Qu(b:Expr){op:CmpOp}(h:op≠.In:=by decide)(h2:op≠.NotIn:=by decide):behindInMarks op b=false:=by
 have G:(op==CmpOp.In)=false:=by cases op<;>first | rfl | exact absurd rfl h
 have J:(op==CmpOp.NotIn)=false:=by cases op<;>first | rfl | exact absurd rfl h2
 cases b<;>simp [behindInMarks,G,J]
theorem ZH{op:CmpOp}{r:R2}(ho:OpR X (compareOp op) r)(ha:PE X a ta)(hb:PE X b tb)(hm:behindInMarks op b=false):PE X (.Compare a [op] [b] pos) (tOp r ta tb):=by
 intro pins s σ H Q I h;exact wpAny_Compare1 (Ph ha hb I h λv u G x y H2 J L M q=>ho pins G σ H2 x y v u Q J L M q) hm
def RE(t:TE):TT:=λσ H Q=>t σ H λx H'=>∃k,x=.bl k/\Q k H'
theorem Qr{op:CmpOp}{r:R2}(ho:OpR X (compareOp op) r)(ha:PE X a ta)(hb:PE X b tb)(hm:behindInMarks op b=false):PT X (.Compare a [op] [b] pos) (RE (tOp r ta tb)):=by
 intro pins s σ H Q I h;refine wpAny_isTrue_Compare1 (thn (ha pins s σ H _ I h) λv G ⟨x,H1,J,L,M⟩=>thn (hb pins G σ H1 _ J M) λu U ⟨y,H2,Y,Z,q2⟩=>
  thn (ho pins U σ H2 x y v u _ Y L Z q2) λc s3 ⟨z,H3,I3,r3,k,e,q3⟩=>?_) hm
 subst e;cases r3;exact wpAny_truthy_bool ⟨H3,I3,q3⟩
theorem UB:(sizeLine:Nat)<2^63:=by rw [sizeLine_eq];decide
theorem Vl:OpR X (binaryOp .Add) (λx y H Q=>∃i j,x=.str i/\y=.str j/\i.length+j.length<=sizeLine/\Q (.str (i++j)) H):=by
 intro pins s σ H x y v u Q I G J h;obtain⟨i,j,rfl,rfl,L,q⟩:=h;obtain⟨t,rfl⟩:=G;obtain⟨M,rfl⟩:=J;exact add_str (λM tk=>⟨.str (i++j),H,I.tok _,⟨_,rfl⟩,q⟩) L
theorem Xh{x:V}{us:List Value}(r:Vals [x] us):∃u,us=[u]/\RelV x u:=by
 cases r with
 | cons G J=>cases J;exact⟨_,rfl,G⟩
theorem V0{x y:V}{us:List Value}(r:Vals [x,y] us):∃u w',us=[u,w']/\RelV x u/\RelV y w':=by
 cases r with
 | cons G J=>
  cases J with
  | cons L M=>cases M;exact⟨_,_,rfl,G,L⟩
theorem Uq:QV X (.type "int") (λxs H Q=>(∃i,xs=[.int i]/\Q (.int i) H)\/∃k,xs=[.bl k]/\Q (.int (if k then 1 else 0)) H):=by
 intro pins s σ H xs J Q I r h;rcases h with⟨i,rfl,q⟩ | ⟨k,rfl,q⟩
 .obtain⟨u,rfl,t,rfl⟩:=Xh r;exact call_int_int ⟨.int i,H,I,⟨_,rfl⟩,q⟩
 .obtain⟨u,rfl,G⟩:=Xh r;cases G;exact call_int_bool ⟨.int (if k then 1 else 0),H,I.tok _,⟨_,rfl⟩,q⟩
def Te(K:Fg)(x:V)(H:Hp)(n:Nat):Prop:=
 match x with
 | .str y=>y.length<=sizeLine/\n=y.length
 | .byt y=>y.size<=sizeLine/\n=y.size
 | .ref p=>(∃xs,SqL K H p xs/\n=xs.length)\/∃xs,SqT K H p xs/\n=xs.length
 | _=>False
theorem call_len:QV X (.builtin "len") (λxs H Q=>∃x n,xs=[x]/\Te X.K x H n/\Q (.int n) H):=by
 intro pins s σ H xs us Q I r h;obtain⟨x,n,rfl,e,q⟩:=h;obtain⟨u,rfl,L⟩:=Xh r;have hl:=UB;have hs:sizeLine=16777216:=sizeLine_eq;cases x with
 | str y=>
  obtain⟨t,rfl⟩:=L;obtain⟨Y,G⟩:y.length<=sizeLine/\n=y.length:=e;subst G;exact len_str (3:) ⟨.int _,H,I.tok _,⟨_,rfl⟩,q⟩
 | byt y=>
  obtain⟨t,rfl⟩:=L;obtain⟨Y,G⟩:y.size<=sizeLine/\n=y.size:=e;subst G;exact PySem.W.len_bytes (3:) ⟨.int _,H,I.tok _,⟨_,rfl⟩,q⟩
 | ref p=>
  cases L;have G:(∃xs,SqL X.K H p xs/\n=xs.length)\/∃xs,SqT X.K H p xs/\n=xs.length:=e;rcases G with⟨xs,M,G⟩ | ⟨xs,M,G⟩
  .subst G;obtain⟨its,U,pl,Z⟩:=I.list M;have J:=U.length;exact Calls.call_len_list pl.isList (by simp only [List.size_toArray];lia) ⟨.int xs.length,H,I.tok _,⟨_,by simp only [List.size_toArray];rw [J]⟩,q⟩
  .subst G;obtain⟨its,U,pl,Z⟩:=I.tuple M;have J:=U.length;exact len_tuple pl (by simp only [List.size_toArray];lia) ⟨.int xs.length,H,I.tok _,⟨_,by simp only [List.size_toArray];rw [J]⟩,q⟩
 | _=>exact(show False from e).elim
end
end L2
namespace L2
open PySem PySem.Spec PyProof.Rows
structure ObjM(h:Heap)(x dx C:Addr)(mA:Str->Option Value):Prop where
 obj:h.get? x=some (PySem.W.instObj C dx)
 ns:h.Ns1 dx mA
 ne:dx≠x
theorem GN{h:Heap}{dx:Addr}{mA:Str->Option Value}(n:h.Ns1 dx mA):∃od,h.get? dx=some od/\∀name,PySem.W.lookIn name od=some (mA name):=by
 obtain⟨o,es,ep,J,L,M,_,U⟩:=n;refine⟨o,J,λname=>?_⟩;have e:=U name;unfold nsFind findBy at e;rw [<-Array.find?_toList]at e;unfold PySem.W.lookIn;rw [L];dsimp only;split
 .rename_i y q;rw [q]at e;exact congrArg some e
 .rename_i q;rw [q]at e;have a:es.toList.any (·.refKey)=false:=by
   rw [List.any_eq_false];intro y Y;obtain⟨z,t,G⟩:=M y (Array.mem_toList_iff.mp Y);simp [DictEntry.refKey,G]
  have Z:¬es.toList.any (·.refKey)=true:=by rw [a];exact Bool.false_ne_true
  rw [if_neg Z];exact congrArg some e
theorem ObjM.look{h:Heap}{x dx C:Addr}{mA:Str->Option Value}(I:ObjM h x dx C mA):∃od,PySem.W.InstAt h x (PySem.W.instObj C dx) C (some od)/\∀name,PySem.W.lookIn name od=some (mA name):=
 let⟨od,G,J⟩:=GN I.ns
 ⟨od,⟨I.obj,rfl,rfl,G⟩,J⟩
section
variable{prog:Program}{w:World}{A:Around}{E:Value->Shared->Prop}{s:Shared}{K:Fg}{x dx C f:Addr}{mA:Str->Option Value}{name:Str}{v:Value}
theorem N9{expr:Bool}{Q:Value->Shared->Prop}(X:K.In s.heap)(I:ObjM s.heap x dx C mA)(hg:PySem.W.plainGet K C name=true)(hh:PySem.W.hasDictIn K C=true)
 (ha:PySem.W.findIn K (.ref C) name=some none) (hv:mA name=some v) (hv':PySem.W.handedIn v=true) (h:Q v { s with toks:=s.toks+1 }):
 wpAny (15:) A (getAttr (.ref x) name expr) Q E s:=by
 obtain⟨L,J,G⟩:=I.look;exact PySem.W.get_value X J (PySem.W.plainGet_of hg).1 (PySem.W.findObj_own hh ha rfl (by rw [G,hv])) hv' h
theorem Mw{pl:Sem Bool}{Q:Value×List Value->Shared->Prop}(X:K.In s.heap)(I:ObjM s.heap x dx C mA)(hg:PySem.W.plainGet K C name=true)
 (hf:PySem.W.findIn K (.ref C) name=some (some (.ref f))) (ht:PySem.W.isFn K (.ref f)=true) (hv:mA name=none) (h:Q (.ref f,[.ref x]) s):
 wpAny (15:) A (getMethod (.ref x) name pl) Q E s:=by
 obtain⟨G,J,L⟩:=I.look;exact PySem.W.method_fn X J (PySem.W.plainGet_of hg).1 (PySem.W.plainGet_of hg).2 hf (beq_iff_eq.mp ht) (by show(PySem.W.lookIn name G).map (·.isSome)=some false;rw [L,hv];rfl) h
theorem Oj{ns:List Str}{Q:Unit->Shared->Prop}(X:K.In s.heap)(I:ObjM s.heap x dx C mA)
 (hs:PySem.W.findIn K (.ref C) "__setattr__"=some (some (.builtin "object.__setattr__"))) (hp:PySem.W.plainOver K C=true) (ht:PySem.W.takerIn K C name=some none) (hh:PySem.W.hasDictIn K C=true)
 (hw:PySem.Within mA ns) (hsz:ns.length<=sizeLine)
 (h:∀h',ObjM h' x dx C (λy=>if y=name then some v else mA y)->Heap.SameBut dx s.heap h'->Q () { s with heap:=h',toks:=s.toks+2 }):
 wpAny (15:) A (setAttr (.ref x) name v) Q E s:=by
 obtain⟨od,J,hl⟩:=I.look;refine PySem.W.set_plain X J hs (PySem.W.osa_open (s:={ s with toks:=s.toks+1 }) (r:=none) X J hp ht λb=>?_);obtain⟨cd,hc,M⟩:=PySem.W.any_some hh;have hx:s.heap.get? x=some ⟨.ref C,some dx,.plain,#[]⟩:=I.obj;refine wpAny_bind (wpAny_pure (wpAny_bind (wpAny_bind (wpAny_loadPart hx (wpAny_bind (PySem.W.Looks.here (s:={ s with toks:=s.toks+1 }) (PySem.W.looks_clsIn X hc) ?_))))));rw [M];refine wpAny_pure (a:=some dx) (wpAny_bind (wpAny_pure (wpAny_bind ?_)));refine wpAny_nsSet1 (s:={ s with toks:=s.toks+1 }) I.ns λh' G L=>?_;obtain⟨oD,aa,ab,U,Y,Z⟩:=G.count (PySem.Within.cons name v hw);refine wpAny_bind (wpAny_lookBehind U (by rw [Y];exact pastItsLine_dict (Nat.le_trans Z (by rw [List.length_cons];lia))) ?_);exact wpAny_pure (h _ ⟨(L.2 _ (Ne.symm I.ne)).trans I.obj,G,I.ne⟩ L)
theorem Nr{R:Result->Shared->Prop}{vs:List Value}{kw:List (Str×Value)}(X:K.In s.heap)(hm:PySem.W.makesIn K C=true)
 (hi:PySem.W.findIn K (.ref C) "__init__"=some (some (.ref f))) (hf:PySem.W.typeIn K (.ref f)=some (.type "function"))
 (h:codeAny (15:) (A.under (.builtin "type.__call__" ⟨.ref C::vs,kw⟩)) (.call (.ref f) ⟨.ref (16:)::vs,kw⟩) (PySem.W.InitBack (16:) R)
  { s with heap:=(s.heap.push PySem.W.emptyDict).push (PySem.W.instObj C s.heap.objs.size) }):
 codeAny (15:) A (.call (.ref C) ⟨vs,kw⟩) R s:=by
 obtain⟨J,g,d,t,L⟩:=s;exact PySem.W.make_core (PySem.W.makes_of X hm) (PySem.W.looks_findIn X hi) (λG=>PySem.W.bind_fn X G hf) (.inl rfl) h
end
def ZK(f:Str)(v:V):List (Str×V)->List (Str×V)
 | []=>[(f,v)]
 | (g,x)::r=>if g=f then(g,v)::r else(g,x)::ZK f v r
theorem UL(f g:Str)(v:V):∀fs:List (Str×V),(ZK f v fs).lookup g=if g=f then some v else fs.lookup g
 | []=>by
  show List.lookup g [(f,v)]=_
  by_cases h:g=f
  .have G:(g==f)=true:=beq_iff_eq.mpr h;simp only [List.lookup,G,if_pos h]
  .have G:(g==f)=false:=beq_eq_false_iff_ne.mpr h;simp only [List.lookup,G,if_neg h]
 | (k,x)::r=>by
  have L:=UL f g v r;rw [show ZK f v ((k,x)::r)=(if k=f then(k,v)::r else(k,x)::ZK f v r)from rfl]
  by_cases J:k=f
  .rw [if_pos J]
   by_cases h:g=k
   .have G:(g==k)=true:=beq_iff_eq.mpr h;simp only [List.lookup,G,if_pos (h.trans J)]
   .have G:(g==k)=false:=beq_eq_false_iff_ne.mpr h;simp only [List.lookup,G,if_neg (λe:g=f=>h (e.trans J.symm))]
  .rw [if_neg J]
   by_cases h:g=k
   .have G:(g==k)=true:=beq_iff_eq.mpr h;simp only [List.lookup,G,if_neg (λe:g=f=>J (h.symm.trans e))]
   .have G:(g==k)=false:=beq_eq_false_iff_ne.mpr h;simp only [List.lookup,G];exact L
theorem Uo(f:Str)(v:V):∀fs:List (Str×V),f∈(ZK f v fs).map (·.1)/\∀g,g∈fs.map (·.1)->g∈(ZK f v fs).map (·.1)
 | []=>⟨by simp [ZK],λg h=>by simp at h⟩
 | (k,x)::r=>by
  obtain⟨i1,i2⟩:=Uo f v r;rw [show ZK f v ((k,x)::r)=(if k=f then(k,v)::r else(k,x)::ZK f v r)from rfl]
  by_cases G:k=f
  .rw [if_pos G];subst G;exact⟨by simp,λg h=>by simpa using h⟩
  .rw [if_neg G];refine⟨?_,λg h=>?_⟩
   .rw [List.map_cons];exact List.mem_cons_of_mem _ i1
   .rw [List.map_cons]at h ⊢;rcases List.mem_cons.mp h with e | e
    .exact List.mem_cons.mpr (.inl e)
    .exact List.mem_cons_of_mem _ (i2 g e)
theorem UD(f:Str)(v:V):∀fs:List (Str×V),(ZK f v fs).length<=fs.length+1
 | []=>by simp [ZK]
 | (k,x)::r=>by
  have J:=UD f v r;rw [show ZK f v ((k,x)::r)=(if k=f then(k,v)::r else(k,x)::ZK f v r)from rfl]
  by_cases G:k=f
  .rw [if_pos G,List.length_cons,List.length_cons];lia
  .rw [if_neg G,List.length_cons,List.length_cons];lia
theorem RelO.some_of{v:V}{o:Option Value}(r:RelO (some v) o):∃u,o=some u/\RelV v u:=by
 cases o with
 | none=>exact(show False from r).elim
 | some u=>exact⟨u,rfl,r⟩
theorem RelO.none_of{o:Option Value}(r:RelO none o):o=none:=by
 cases o with
 | none=>rfl
 | some u=>exact(show False from r).elim
theorem Lg{v:V}{u:Value}(r:RelV v u):PySem.W.handedIn u=true:=by
 cases v with
 | non=>cases (show u=Value.none from r);rfl
 | bl b=>cases (show u=Value.bool b from r);rfl
 | int i=>obtain⟨t,e⟩:=(show ∃t,u=Value.int i t from r);cases e;rfl
 | str x=>obtain⟨t,e⟩:=(show ∃t,u=Value.str x t from r);cases e;rfl
 | byt b=>obtain⟨t,e⟩:=(show ∃t,u=Value.bytes b t from r);cases e;rfl
 | flt b=>obtain⟨t,e⟩:=(show ∃t,u=Value.float b t from r);cases e;rfl
 | ref a=>cases (show u=Value.ref a from r);rfl
 | ty n=>cases (show u=Value.type n from r);rfl
section
variable{P:Program}{w:World}{H H':Hp}{h h':Heap}{a C dx:Addr}{fs fs':List (Str×V)}
theorem U4(hok:HOk P w H h)(e:H a=some (.ins C dx fs)):∃mA,ObjM h a dx C mA/\(∀f,RelO (fs.lookup f) (mA f))/\PySem.Within mA (fs.map (·.1))/\fs.length<=1000/\H dx=some (.own a):=by
 obtain⟨d,z,ne,G,mA,n,r,q⟩:=(show ObjOk P w H h a (.ins C dx fs)from hok a _ e);exact⟨mA,⟨G,n,ne⟩,r,q,z,d⟩
end
structure Cls(K:Fg)(C:Addr):Prop where
 pg:PySem.W.plainGet K C Str.empty=true
 hd:PySem.W.hasDictIn K C=true
 po:PySem.W.plainOver K C=true
 sa:PySem.W.findIn K (.ref C) "__setattr__"=some (some (.builtin "object.__setattr__"))
theorem Cls.get{K:Fg}{C:Addr}(c:Cls K C)(f:Str):PySem.W.plainGet K C f=true:=c.pg
def NoAttr(K:Fg)(C:Addr)(f:Str):Prop:=PySem.W.findIn K (.ref C) f=some none
theorem NoAttr.taker{K:Fg}{C:Addr}{f:Str}(n:NoAttr K C f):PySem.W.takerIn K C f=some none:=by
 unfold PySem.W.takerIn;rw [show PySem.W.findIn K (.ref C) f=some none from n]
 rfl
structure Meth(K:Fg)(C:Addr)(m:Str)(f:Addr):Prop where
 at_:PySem.W.findIn K (.ref C) m=some (some (.ref f))
 fn:PySem.W.isFn K (.ref f)=true
 kp:PySem.W.keepIn K (.ref f)=true
section
variable{X:Cx}{pins:List (8:)}{σ:St}{H:Hp}{s:Shared}{a C dx:Addr}{fs:List (Str×V)}{f:Str}{v:V}{A:Around}{E:Value->Shared->Prop}
theorem Vf{b:Bool}{Q:Value->Shared->Prop}(I:Inv X pins σ H s)(e:H a=some (.ins C dx fs))(c:Cls X.K C)(n:NoAttr X.K C f)(l:fs.lookup f=some v)
 (h:∀u s',Inv X pins σ H s'->RelV v u->Q u s'):wpAny (4:) A (getAttr (.ref a) f b) Q E s:=by
 obtain⟨mA,O,r,_,_,_⟩:=U4 I.hok e;obtain⟨u,J,G⟩:=RelO.some_of (v:=v) (o:=mA f) (by rw [<-l];exact r f);exact N9 I.kIn O (c.get f) c.hd n J (Lg G) (h u _ (I.tok _) G)
theorem Ju{m:Str}{g:Addr}{pl:Sem Bool}{Q:Value×List Value->Shared->Prop}(I:Inv X pins σ H s)(e:H a=some (.ins C dx fs))(c:Cls X.K C)(k:Meth X.K C m g)(l:fs.lookup m=none)
 (h:Q (.ref g,[.ref a]) s):wpAny (4:) A (getMethod (.ref a) m pl) Q E s:=by
 obtain⟨mA,O,r,_,_,_⟩:=U4 I.hok e;have G:mA m=none:=RelO.none_of (by rw [<-l];exact r m);exact Mw I.kIn O (c.get m) k.at_ k.fn G h
theorem VS{y:V}{u:Value}{Q:Unit->Shared->Prop}(I:Inv X pins σ H s)(e:H a=some (.ins C dx fs))(c:Cls X.K C)(n:NoAttr X.K C f)(hl:fs.length<1000)(ry:RelV y u)
 (h:∀s',Inv X pins σ (upd H a (.ins C dx (ZK f y fs))) s'->Q () s'):wpAny (4:) A (setAttr (.ref a) f u) Q E s:=by
 obtain⟨mA,O,r,J,_,L⟩:=U4 I.hok e;have M:(fs.map (·.1)).length<=sizeLine:=by rw [List.length_map,sizeLine_eq];lia
 refine Oj I.kIn O c.sa c.po n.taker c.hd J M λh' G U=>h _ ?_;have Y:∃o,h'.get? dx=some o:=let⟨o,_,_,Z,_⟩:=G.ns;⟨o,Z⟩
 refine I.write (x:=a) (e:=dx) (by rw [e];exact True.intro) (.inr L) (λb q hb z=>(U.2 b hb).trans z) Y ?_;refine⟨by rw [Qh O.ne];exact L,?_,O.ne,G.obj,_,G.ns,λg=>?_,λg hg=>?_⟩
 .have:=UD f y fs;lia
 .show RelO ((ZK f y fs).lookup g) (if g=f then some u else mA g);rw [UL]
  by_cases q:g=f
  .rw [if_pos q,if_pos q];exact ry
  .rw [if_neg q,if_neg q];exact r g
 .by_cases q:g=f
  .rw [q];exact(Uo f y fs).1
  .refine(Uo f y fs).2 g (J g λz=>hg ?_);show(if g=f then some u else mA g)=none;rw [if_neg q];exact z
theorem Inv.made(I:Inv X pins σ H s):Inv X pins σ (upd (upd H s.heap.objs.size (.own (16:))) (16:) (.ins C s.heap.objs.size []))
 { s with heap:=(s.heap.push PySem.W.emptyDict).push (PySem.W.instObj C s.heap.objs.size) }:=by
 have G:(s.heap.push PySem.W.emptyDict).get? s.heap.objs.size=some PySem.W.emptyDict:=Heap.get?_push_size s.heap rfl;have J:((s.heap.push PySem.W.emptyDict).push (PySem.W.instObj C s.heap.objs.size)).get? (16:)=some (PySem.W.instObj C s.heap.objs.size):=by
  have:=Heap.get?_push_size (s.heap.push PySem.W.emptyDict) (o:=PySem.W.instObj C s.heap.objs.size) rfl
  rwa [Heap.size_push]at this
 have L:(s.heap.push PySem.W.emptyDict).Ns s.heap.objs.size (λ_=>none):=⟨PySem.W.emptyDict,#[],_,G,rfl,(λe M=>absurd M (22:)),λ_=>rfl⟩;have U:=I.laid (a:=s.heap.objs.size) (o:=.own (16:)) (h':=s.heap.push PySem.W.emptyDict) (t':=s.toks) (λb u q=>Heap.get?_push_of_some _ q) (5:) ⟨_,G⟩;refine U.laid (a:=s.heap.objs.size+1) (o:=.ins C s.heap.objs.size []) (t':=s.toks) (λb u q=>Heap.get?_push_of_some _ q) (Nat.le_of_eq (Heap.size_push _ _)) ?_;have ne:s.heap.objs.size≠s.heap.objs.size+1:=Nat.ne_of_lt (Nat.lt_succ_self _);refine⟨by rw [Qh ne,Qb],Nat.zero_le _,ne,J,λ_=>none,(Heap.Ns1.of_empty L).at λo q=>Heap.get?_push_of_some _ q,λ_=>True.intro,λy Y=>absurd rfl Y⟩
theorem NW{prog:Program}{w:World}{env:Env}{e:Expr}{f:Str}{pos:Pos}{s:Shared}{Q:Value->Shared->Prop}(hb:attributeBase e f env (eval e env)=eval e env)
 (h:wpAny (15:) A (eval e env) (λo s₁=>wpAny (15:) A (getAttr o f true) Q E s₁) E s):wpAny (15:) A (eval (.Attribute e f pos) env) Q E s:=
 Attribute_any_ h (by rw [arm_eval_Attribute,hb])
end
def SV(K:Fg)(ta:TE)(f:Str):TE:=λσ H Q=>ta σ H λx H1=>∃a C dx fs v,x=.ref a/\H1 a=some (.ins C dx fs)/\Cls K C/\NoAttr K C f/\fs.lookup f=some v/\Q v H1
def Tx(K:Fg)(ta tv:TE)(f:Str):TS:=λD σ H=>tv σ H λy H1=>ta σ H1 λx H2=>∃a C dx fs,x=.ref a/\H2 a=some (.ins C dx fs)/\Cls K C/\NoAttr K C f/\fs.length<1000/\
 D.nx σ (upd H2 a (.ins C dx (ZK f y fs)))
section
variable{X:Cx}{o e value:Expr}{f:Str}{pos pos' tpos:Pos}{ta tv:TE}
theorem Ji(he:PE X e ta)(hb:attributeBase e f X.env (eval e X.env)=eval e X.env):PE X (.Attribute e f pos) (SV X.K ta f):=by
 intro pins s σ H Q I h;refine NW hb (thn (he pins s σ H _ I h) λu Y ⟨x,H1,G,J,a,C,dx,fs,v,ex,L,c,n,l,q⟩=>?_);subst ex;obtain rfl:u=Value.ref a:=J;exact Vf G L c n l λZ s2 M U=>⟨v,H1,M,U,q⟩
theorem Xq(ha:PE X o ta)(hv:PE X value tv)(hs:swapsWith value (some (.Attribute o f pos')) pos.line X.env=pure false):PS X (.Assign [.Attribute o f pos'] value pos) (Tx X.K ta tv f):=by
 intro pins s σ H D I h;refine plainObj_wpAny_Assign_Attribute (thn (hv pins s σ H _ I h) λu G ⟨y,H1,J,L,q⟩=>thn (ha pins G σ H1 _ J q) λM s2 ⟨x,H2,U,Y,a,C,dx,fs,ex,Z,c,n,l,q2⟩=>?_) hs;subst ex;obtain rfl:M=Value.ref a:=Y;exact VS U Z c n l L λs3 I3=>⟨σ,_,I3,q2⟩
end
section
variable{X:Cx}{pins:List (8:)}{σ:St}{H:Hp}{s:Shared}{A:Around}{E:Value->Shared->Prop}{Q:Value->Shared->Prop}{c:Value}{b:Bool}
inductive TyOf(K:Fg)(H:Hp):V->Value->Prop where
 | non:TyOf K H .non (.type "NoneType")
 | bl (x:Bool):TyOf K H (.bl x) (.type "bool")
 | int (i:Int):TyOf K H (.int i) (.type "int")
 | str (x:Str):TyOf K H (.str x) (.type "str")
 | flt (x:UInt64):TyOf K H (.flt x) (.type "float")
 | lst {a:Addr} {xs:List V} (e:H a=some (.lst xs)):TyOf K H (.ref a) (.type "list")
 | frz {a:Addr} {o:Obj} {xs:List V} (e:H a=some (.frz o (.lst xs))):TyOf K H (.ref a) (.type "list")
 | tup {a:Addr} {xs:List V} (e:H a=some (.tup xs)):TyOf K H (.ref a) (.type "tuple")
 | dK {a:Addr} {kvs:List (Key×V)} (e:H a=some (.dK kvs)):TyOf K H (.ref a) (.type "dict")
 | dT {a:Addr} {kvs:List (List Key×V)} (e:H a=some (.dT kvs)):TyOf K H (.ref a) (.type "dict")
 | ins {a C dx:Addr} {fs:List (Str×V)} (e:H a=some (.ins C dx fs)) (cl:Cls K C) (ha:PySem.W.findIn K (.ref C) "__class__"=some (some (.builtin "object.__class__")))
  (hn:PySem.W.specialIn K (.builtin "object.__class__") "__get__"=some (some (.builtin "getset_descriptor.__get__"))) (htk:PySem.W.takesIn K (.builtin "object.__class__")=some true)
  (hm:PySem.W.mroIn K C (.type "object")=some true):TyOf K H (.ref a) (.ref C)
theorem GK{x:V}{u t:Value}(I:Inv X pins σ H s)(rx:RelV x u)(ty:TyOf X.K H x t)(e:PySem.W.kitOne X.K t c=some b)(h:∀tk,Q (.bool b) { s with toks:=tk }):
 wpAny (4:) A (call (.builtin "isinstance") [u,c]) Q E s:=by
 cases ty with
 | non=>cases (show u=Value.none from rx);exact PySem.W.kia_one PySem.W.kitx_none I.kIn True.intro e (λz=>nomatch z) h
 | bl y=>cases (show u=Value.bool y from rx);exact PySem.W.kia_one PySem.W.kitx_bool I.kIn True.intro e (λz=>nomatch z) h
 | int i=>obtain⟨t,q⟩:=(show ∃t,u=Value.int i t from rx);cases q;exact PySem.W.kia_one PySem.W.kitx_int I.kIn True.intro e (λz=>nomatch z) h
 | str y=>obtain⟨t,q⟩:=(show ∃t,u=Value.str y t from rx);cases q;exact PySem.W.kia_one PySem.W.kitx_str I.kIn True.intro e (λz=>nomatch z) h
 | flt y=>obtain⟨t,q⟩:=(show ∃t,u=Value.float y t from rx);cases q;exact PySem.W.kia_one PySem.W.kitx_float I.kIn True.intro e (λz=>nomatch z) h
 | @lst a xs G=>
  cases (show u=Value.ref a from rx);obtain⟨_,_,n,_,h1⟩:=(show ObjOk X.prog X.w H s.heap a (.lst xs)from I.hok a _ G);exact PySem.W.kia_one PySem.W.kitx_list I.kIn ⟨_,h1,rfl⟩ e (46:) h
 | @frz a M xs G=>
  cases (show u=Value.ref a from rx);obtain⟨_,_,_,n,_,h1⟩:=(show ObjOk X.prog X.w H s.heap a (.frz M (.lst xs))from I.hok a _ G);exact PySem.W.kia_one PySem.W.kitx_list I.kIn ⟨_,h1,rfl⟩ e (46:) h
 | @tup a xs G=>
  cases (show u=Value.ref a from rx);obtain⟨_,_,_,p⟩:=(show ObjOk X.prog X.w H s.heap a (.tup xs)from I.hok a _ G);obtain⟨o,h1,h2,_⟩:=p;exact PySem.W.kia_one PySem.W.kitx_tuple I.kIn ⟨o,h1,h2⟩ e (46:) h
 | @dK a kvs G=>
  cases (show u=Value.ref a from rx);obtain⟨_,_,vs,_,p⟩:=(show ObjOk X.prog X.w H s.heap a (.dK kvs)from I.hok a _ G);obtain⟨o,es,U,h1,h2,_⟩:=p;exact PySem.W.kia_one PySem.W.kitx_dict I.kIn ⟨o,h1,h2.1⟩ e (46:) h
 | @dT a kvs G=>
  cases (show u=Value.ref a from rx);obtain⟨_,_,xs,_,o,es,U,h1,h2,_⟩:=(show ObjOk X.prog X.w H s.heap a (.dT kvs)from I.hok a _ G);exact PySem.W.kia_one PySem.W.kitx_dict I.kIn ⟨o,h1,h2.1⟩ e (46:) h
 | @ins a C dx fs G cl Y Z L hm=>
  cases (show u=Value.ref a from rx);obtain⟨mA,O,_⟩:=U4 I.hok G;obtain⟨od,J,_⟩:=O.look;exact PySem.W.kia_one (PySem.W.kitx_own (cl.get _) cl.hd Y Z L hm) I.kIn J e (46:) h
end
end L2
namespace L2
open PySem PySem.Spec PyProof.Rows
structure Room(k:Nat)(A:Around):Prop where
 hd:A.handled=none
 dp:A.depth+3*k+5<recursionLimit
 un:A.units+16*k+200<cLine
theorem Room.mono{j k:Nat}{A:Around}(r:Room k A)(h:j<=k):Room j A:=⟨r.hd,by have:=r.dp;lia,by have:=r.un;lia⟩
theorem Room.deeper{k:Nat}{A:Around}(r:Room (k+1) A)(env:Env):Room k (A.deeper env):=
 ⟨r.hd,by have:=r.dp;show A.depth+1+3*k+5<_;lia,by have:=r.un;show A.units+3+16*k+200<_;lia⟩
theorem Vg{A:Around}{C:Addr}{us:List Value}{kw:List (Str×Value)}:(A.under (.builtin "type.__call__" ⟨.ref C::us,kw⟩)).depth=A.depth+1:=by
 first | rfl | simp [Around.under,Code.weight,Code.isCreation,Code.isGuard,Code.isCaller,Code.frames,Code.isFrame,guardIds]
theorem VP{A:Around}{C:Addr}{us:List Value}{kw:List (Str×Value)}:(A.under (.builtin "type.__call__" ⟨.ref C::us,kw⟩)).units=A.units+1:=by
 first | rfl | simp [Around.under,Code.cUnits,Code.frames,Code.isFrame]
theorem Room.make{k:Nat}{A:Around}(r:Room (k+1) A)(C:Addr)(us:List Value)(kw:List (Str×Value)):Room k (A.under (.builtin "type.__call__" ⟨.ref C::us,kw⟩)):=
 ⟨r.hd,by have:=r.dp;rw [Vg];lia,by have:=r.un;rw [VP];lia⟩
theorem Room.depth{k:Nat}{A:Around}(r:Room k A):A.depth<recursionLimit:=by have:=r.dp;lia
theorem Room.units{k:Nat}{A:Around}(r:Room k A):A.units+64<cLine:=by have:=r.un;lia
def UQ:TA:=λ_ H Q=>Q [] H
def Zm(ta:TE)(tr:TA):TA:=λσ H Q=>ta σ H λx H1=>tr σ H1 λxs H2=>Q (x::xs) H2
section
variable{X:Cx}{e:Expr}{es:List Expr}{te:TE}{t:TA}{pos:Pos}
theorem Qc:PA X [] UQ:=λ_ _ _ _ H Q I h=>Calls.spliced_nil ⟨[],H,I,.nil,h⟩
theorem Qa(ha:PE X e te)(hr:PA X es t)(hs:starEach (e::es) X.env=(false,eval e X.env)::starEach es X.env:=by rfl):PA X (e::es) (Zm te t):=by
 intro pos pins s σ H Q I h;rw [hs];show wpAny _ _ (spliced ((false,eval e X.env)::backTo pos (starEach es X.env))) _ _ s;refine Calls.spliced_cons (thn (ha pins s σ H _ I h) λu G ⟨x,H1,J,L,M⟩=>?_);exact thn (hr pos pins G σ H1 _ J M) λus s2 ⟨xs,H2,U,Y,Z⟩=>⟨x::xs,H2,U,.cons L Y,Z⟩
def P6(t:TA):TE:=λσ H Q=>t σ H λxs H1=>xs.length<=sizeLine/\∀p,H1 p=none->Q (.ref p) (upd H1 p (.tup xs))
def S9(t:TA):TE:=λσ H Q=>t σ H λxs H1=>xs.length<=sizeLine/\∀p,H1 p=none->Q (.ref p) (upd H1 p (.lst xs))
theorem QD{x1}(h:PA X es t):PE X (.Tuple es x1 pos) (P6 t):=by
 intro pins s σ H Q I L;refine wpAny_Tuple_spliced (thn (h pos pins s σ H _ I L) λM G ⟨xs,H1,J,r,z,q⟩=>⟨by rw [<-r.length];exact z,?_⟩);have U:H1 G.heap.objs.size=none:=J.hok.fresh (5:);refine⟨.ref G.heap.objs.size,upd H1 G.heap.objs.size (.tup xs),J.laid (t':=G.toks) (λb u e=>Heap.get?_push_of_some _ e) (5:) ?_,rfl,q _ U⟩;exact⟨z,M,r,⟨_,Heap.get?_push_size _ rfl,rfl,_,rfl⟩⟩
theorem QY(h:PA X es t):PE X (.List es pos) (S9 t):=by
 intro pins s σ H Q I L;refine wpAny_List_spliced (thn (h pos pins s σ H _ I L) λM G ⟨xs,H1,J,r,z,q⟩=>⟨by rw [<-r.length];exact z,?_⟩);have U:H1 G.heap.objs.size=none:=J.hok.fresh (5:);refine⟨.ref G.heap.objs.size,upd H1 G.heap.objs.size (.lst xs),J.laid (t':=G.toks) (λb u e=>Heap.get?_push_of_some _ e) (5:) ?_,rfl,q _ U⟩;exact⟨z,M,0,r,Heap.get?_push_size _ rfl⟩
end
abbrev Sp:=List V->Hp->VK->XK->Prop
abbrev CXT:=List Env->Hp->Shared->XK->Value->Shared->Prop
structure Env0(P:Program)(w:World)(K:Fg)(mg:Str->Option Value)(base:Heap)(A:Around)(outer:List Env)(s:Shared)(H:Hp):Prop where
 frames:A.frames=some outer
 mod:Mod K mg base
 bs:∀b o,base.get? b=some o->s.heap.get? b=some o/\H b=none
 bsz:base.objs.size<=s.heap.objs.size
 funs:s.heap.FunFrames base outer
 frf:∀b∈frs outer,H b=none
 hok:HOk P w H s.heap
 bare:AllBare s.gens
def CE(outer:List Env)(P:Program)(w:World)(H:Hp)(s:Shared)(Q:VK)(u:Value)(s':Shared):Prop:=
 ∃v H',s'.os=s.os/\AllBare s'.gens/\Un (frs outer) [] H H' s.heap s'.heap/\HOk P w H' s'.heap/\RelV v u/\Q v H'
def CR(CX:CXT)(outer:List Env)(P:Program)(w:World)(H:Hp)(s:Shared)(Q:VK)(E:XK)(r:Result)(s':Shared):Prop:=
 match r with
 | .ok (.ret u)=>CE outer P w H s Q u s'
 | .ok _=>False
 | .error e=>CX outer H s E e s'
structure FnOk(P:Program)(w:World)(K:Fg)(mg:Str->Option Value)(base:Heap)(CX:CXT)(k:Nat)(f:Addr)(fd:FuncData)(ps:List Str)(sp:Sp):Prop where
 len:∀vs H Q E,sp vs H Q E->vs.length=ps.length
 run:∀(A:Around)(outer:List Env)(s:Shared)(H:Hp)(args:Args)(us:List Value)(vs:List V)(Q:VK)(E:XK),Room k A->Env0 P w K mg base A outer s H->BindsTo s fd args (ps.zip us)->Vals vs us->sp vs H Q E->
  codeAny (model P w) A (.call (.ref f) args) (CR CX outer P w H s Q E) s
theorem Env0.make{P:Program}{w:World}{K:Fg}{mg:Str->Option Value}{base:Heap}{A:Around}{outer:List Env}{s:Shared}{H:Hp}(e:Env0 P w K mg base A outer s H)(C:Addr)(us:List Value)(kw:List (Str×Value)):
 Env0 P w K mg base (A.under (.builtin "type.__call__" ⟨.ref C::us,kw⟩)) outer s H:=⟨by first | exact e.frames | (simpa [Around.under,Code.envs,Code.isFrame,pushEnvs]using e.frames),e.mod,e.bs,e.bsz,e.funs,e.frf,e.hok,e.bare⟩
section
variable{X:Cx}{pins:List (8:)}{σ:St}{H:Hp}{s s':Shared}
theorem Inv.env0(I:Inv X pins σ H s):Env0 X.prog X.w X.K X.mg X.base X.A X.stack s H:=
 ⟨I.ok.frames,I.ok.mod,I.bs,Nat.le_trans I.ok.bsz I.sz,I.stack,I.stkFree,I.hok,I.bare⟩
theorem Inv.after{Q:VK}{u:Value}(I:Inv X pins σ H s)(h:CE X.stack X.prog X.w H s Q u s'):EP X pins σ Q u s':=by
 obtain⟨v,H',M,G,un,J,r,q⟩:=h;obtain⟨U,g,d,t,L⟩:=s';obtain rfl:L=s.os:=M;exact⟨v,H',I.call (h':=U) (g':=g) (d':=d) (t':=t) (ch:=[]) un J G (λb z=>absurd z (22:)),r,q⟩
end
def J9(sp:Sp)(dvs:List V)(E:XK)(t:TA):TE:=λσ H Q=>t σ H λvs H1=>sp (vs++dvs) H1 Q E
def We(C:Addr)(m:Str)(sp:Sp)(dvs:List V)(E:XK)(ta:TE)(t:TA):TE:=λσ H Q=>ta σ H λx H1=>∃a dx fs,x=.ref a/\H1 a=some (.ins C dx fs)/\fs.lookup m=none/\
 t σ H1 λvs H2=>sp (x::(vs++dvs)) H2 Q E
def So(C:Addr)(sp:Sp)(dvs:List V)(E:XK)(t:TA):TE:=λσ H Q=>t σ H λvs H1=>∀x dx,H1 x=none->H1 dx=none->dx≠x->
 sp (.ref x::(vs++dvs)) (upd (upd H1 dx (.own x)) x (.ins C dx [])) (λv H2=>v=.non/\Q (.ref x) H2) E
def Binds(K:Fg)(fd:FuncData)(ps:List Str)(ds:List Value):Prop:=
 ∀(s:Shared)(us:List Value),K.In s.heap->(us++ds).length=ps.length->BindsTo s fd ⟨us,[]⟩ (ps.zip (us++ds))
theorem Binds.all{K:Fg}{fd:FuncData}{ps:List Str}(h:∀us:List Value,us.length=ps.length->bindArgs fd ⟨us,[]⟩=pure (ps.zip us)):Binds K fd ps []:=λs us _ G=>by
 rw [List.append_nil]at G ⊢;exact .of_eq (h us G)
def YN(CX:CXT)(X:Cx)(E:XK):Prop:=∀(pins:List (8:))(σ:St)(H:Hp)(s:Shared)(e:Value)(s':Shared),Inv X pins σ H s->CX X.stack H s E e s'->X.xe e s'
section
variable{X:Cx}{CX:CXT}{k:Nat}{f C:Addr}{fd:FuncData}{ps:List Str}{sp:Sp}{dvs:List V}{ds:List Value}{E:XK}{x m:Str}{p pos apos:Pos}{e o:Expr}{es:List Expr}{ta:TE}{t:TA}
theorem VA{pins:List (8:)}{σ:St}{H:Hp}{s:Shared}{Q:VK}{us:List Value}{vs:List V}(F:FnOk X.prog X.w X.K X.mg X.base CX k f fd ps sp)(hr:Room k X.A)(hb:Binds X.K fd ps ds)(hd:Vals dvs ds)(hx:YN CX X E)
 (I:Inv X pins σ H s) (r:Vals vs us) (h:sp (vs++dvs) H Q E):wpAny (4:) X.A (call (.ref f) us) (EP X pins σ Q) X.xe s:=by
 have J:Vals (vs++dvs) (us++ds):=r.append hd;have L:(us++ds).length=ps.length:=by rw [<-J.length];exact F.len _ _ _ _ h
 refine wpAny_call (codeAny_mono (F.run X.A X.stack s H ⟨us,[]⟩ (us++ds) (vs++dvs) Q E hr I.env0 (hb s us I.kIn L) J h) λr s' G=>?_);cases r with
 | error e=>exact hx pins σ H s e s' I G
 | ok fl=>
  cases fl with
  | ret u=>exact I.after G
  | next=>exact False.elim G
  | brk=>exact False.elim G
  | cont=>exact False.elim G
theorem Ox(F:FnOk X.prog X.w X.K X.mg X.base CX k f fd ps sp)(hr:Room k X.A)(hg:Gl X x)(hm:X.mg x=some (.ref f))(hk:PySem.W.keepIn X.K (.ref f)=true)(hb:Binds X.K fd ps ds)(hd:Vals dvs ds)(hx:YN CX X E)
 (ha:PA X (e::es) t) (hdb:(42:)=false:=by decide) (he:starEach (e::es) X.env=(false,eval e X.env)::starEach es X.env:=by rfl) (hpl:(52:).any (·.1)=false:=by rfl):
 PE X (.Call (.Name x p) (e::es) [] pos) (J9 sp dvs E t):=by
 intro pins s σ H Q I h;refine wpAny_Call_Name_kw (Gf I hg hm ?_ hdb);refine PySem.W.callWith_K (h₀:=X.base) I.ok.mod.kin hk (thn (ha pos pins s σ H _ I h) λJ L ⟨vs,H1,G,r,q⟩=>⟨G.kIn,?_⟩) he hpl;exact VA F hr hb hd hx G r q
theorem N8{pl:Sem Bool}(he:PE X o ta)(c:Cls X.K C)(hm:Meth X.K C m f)(F:FnOk X.prog X.w X.K X.mg X.base CX k f fd ps sp)(hr:Room k X.A)(hb:Binds X.K fd ps ds)(hd:Vals dvs ds)(hx:YN CX X E)(ha:PA X (e::es) t)
 (hst:starEach (e::es) X.env=(false,eval e X.env)::starEach es X.env:=by rfl) (hpl:(52:).any (·.1)=false:=by rfl)
 (ht:eval (.Call (.Attribute o m apos) (e::es) [] pos) X.env=(do
  let ov <-eval o X.env
  standAt apos.atName
  let(f,first) <-holding [ov] (getMethod ov m pl)
  callWith pos f first (backTo pos (starEach (e::es) X.env)) (backToKw pos (keywordEach [] X.env))):=by rfl):
 PE X (.Call (.Attribute o m apos) (e::es) [] pos) (We C m sp dvs E ta t):=by
 intro pins s σ H Q I h;refine PySem.W.methodCall_KW (pl:=pl) (thn (he pins s σ H _ I h) λu L ⟨x,H1,G,M,a,dx,fs,ex,U,l,q⟩=>?_) ht;subst ex;obtain rfl:u=Value.ref a:=M;refine Ju G U c hm l ?_;refine PySem.W.callWith_K (first:=[.ref a]) (h₀:=X.base) I.ok.mod.kin hm.kp (thn (ha pos pins L σ H1 _ G q) λY s2 ⟨vs,H2,J,r,Z⟩=>⟨J.kIn,?_⟩) hst hpl;exact VA (us:=.ref a::Y) (vs:=.ref a::vs) F hr hb hd hx J (.cons rfl r) Z
theorem M3{pl:Sem Bool}(he:PE X o ta)(c:Cls X.K C)(hm:Meth X.K C m f)(F:FnOk X.prog X.w X.K X.mg X.base CX k f fd ps sp)(hr:Room k X.A)(hb:Binds X.K fd ps ds)(hd:Vals dvs ds)(hx:YN CX X E)
 (ht:eval (.Call (.Attribute o m apos) [] [] pos) X.env=(do
  let ov <-eval o X.env
  standAt apos.atName
  let(f,first) <-holding [ov] (getMethod ov m pl)
  callWith pos f first (backTo pos (starEach [] X.env)) (backToKw pos (keywordEach [] X.env))):=by rfl):
 PE X (.Call (.Attribute o m apos) [] [] pos) (We C m sp dvs E ta UQ):=by
 intro pins s σ H Q I h;refine PySem.W.methodCall_KW (pl:=pl) (thn (he pins s σ H _ I h) λu M ⟨x,H1,G,J,a,dx,fs,ex,L,l,q⟩=>?_) ht;subst ex;obtain rfl:u=Value.ref a:=J;refine Ju G L c hm l ?_;exact PySem.W.callWith_K0 (first:=[.ref a]) G.kIn hm.kp (VA (us:=[.ref a]) (vs:=[.ref a]) F hr hb hd hx G (.cons rfl .nil) q)
structure Mk(K:Fg)(C f:Addr):Prop where
 makes:PySem.W.makesIn K C=true
 init:PySem.W.findIn K (.ref C) "__init__"=some (some (.ref f))
 fn:PySem.W.isFn K (.ref f)=true
 kp:PySem.W.keepIn K (.ref C)=true
theorem Nn{pins:List (8:)}{σ:St}{H:Hp}{s:Shared}{Q:VK}{us:List Value}{vs:List V}(M:Mk X.K C f)(F:FnOk X.prog X.w X.K X.mg X.base CX k f fd ps sp)(hr:Room (k+1) X.A)(hb:Binds X.K fd ps ds)(hd:Vals dvs ds)
 (hx:YN CX X E) (I:Inv X pins σ H s) (r:Vals vs us)
 (h:∀x dx,H x=none->H dx=none->dx≠x->sp (.ref x::(vs++dvs)) (upd (upd H dx (.own x)) x (.ins C dx [])) (λv H2=>v=.non/\Q (.ref x) H2) E):
 wpAny (4:) X.A (call (.ref C) us) (EP X pins σ Q) X.xe s:=by
 have L:=h (16:) s.heap.objs.size (I.hok.fresh (Nat.le_succ _)) (I.hok.fresh (5:)) (Nat.ne_of_lt (Nat.lt_succ_self _));have J:=Inv.made (C:=C) I;have U:Vals (V.ref (16:)::(vs++dvs)) (Value.ref (16:)::(us++ds)):=.cons rfl (r.append hd);have Y:(Value.ref (16:)::us++ds).length=ps.length:=by
  have e:=U.length;rw [F.len _ _ _ _ L]at e;exact e.symm
 refine wpAny_call (Nr (f:=f) I.kIn M.makes M.init (beq_iff_eq.mp M.fn) (codeAny_mono (F.run _ X.stack _ _ ⟨Value.ref (16:)::us,[]⟩ (Value.ref (16:)::(us++ds)) _ _ E (hr.make C us [])
  (J.env0.make C us []) (hb _ (Value.ref (16:)::us) J.kIn Y) U L) λr s' G=>?_))
 cases r with
 | error e=>exact hx pins σ _ _ e s' J G
 | ok fl=>
  cases fl with
  | ret u=>
   obtain⟨v,H',Z,rv,ev,q3⟩:=J.after G;subst ev;exact⟨rv,⟨V.ref (16:),H',Z,rfl,q3⟩⟩
  | next=>exact False.elim G
  | brk=>exact False.elim G
  | cont=>exact False.elim G
theorem Ge(M:Mk X.K C f)(F:FnOk X.prog X.w X.K X.mg X.base CX k f fd ps sp)(hr:Room (k+1) X.A)(hg:Gl X x)(hm:X.mg x=some (.ref C))(hb:Binds X.K fd ps ds)(hd:Vals dvs ds)(hx:YN CX X E)
 (ha:PA X (e::es) t) (hdb:(42:)=false:=by decide) (he:starEach (e::es) X.env=(false,eval e X.env)::starEach es X.env:=by rfl) (hpl:(52:).any (·.1)=false:=by rfl):
 PE X (.Call (.Name x p) (e::es) [] pos) (So C sp dvs E t):=by
 intro pins s σ H Q I h;refine wpAny_Call_Name_kw (Gf I hg hm ?_ hdb);refine PySem.W.callWith_K (h₀:=X.base) I.ok.mod.kin M.kp (thn (ha pos pins s σ H _ I h) λJ L ⟨vs,H1,G,r,q⟩=>⟨G.kIn,?_⟩) he hpl;exact Nn M F hr hb hd hx G r q
end
section
variable{X:Cx}{CX:CXT}{k:Nat}{f C:Addr}{fd:FuncData}{ps ks:List Str}{sp:Sp}{E:XK}{x m:Str}{p pos apos kpos:Pos}{e o:Expr}{es:List Expr}{kws:List Keyword}{te ta:TE}{t tk:TA}{nm:Option Str}
variable{g:List Value->List Value->List Value}{gV:List V->List V->List V}
end
structure FnScope(N P:List Str)(sc:Scope):Prop where
 kind:sc.kind=.function
 co:sc.isCoroutine=false
 gen:sc.isGenerator=false
 nd:N.Nodup
 pre:N.take P.length=P
 par:∀x∈P,sc.names.lookup x=some .local\/sc.names.lookup x=some .cell
 nofree:∀y∈sc.names,y.2≠.free
theorem Xg{kindOf:Str->Option NameKind}{x:Str}:∀{binds:List (Str×Value)}{m:Str->Option Value},(∀v,(x,v)∉binds)->bindL kindOf binds m x=m x
 | [],_,_=>rfl
 | (n,v)::r,m,h=>by
  unfold bindL;rw [Xg λw G=>h w (19:)];split
  .have:x≠n:=by rintro rfl;exact h v List.mem_cons_self
   simp [this]
  .rfl
theorem Xf{kindOf:Str->Option NameKind}{x:Str}:∀{binds:List (Str×Value)}{m:Str->Option Value},(∀v,(x,v)∉binds)->bindC kindOf binds m x=m x
 | [],_,_=>rfl
 | (n,v)::r,m,h=>by
  unfold bindC;rw [Xf λw G=>h w (19:)];split
  .rfl
  .have:x≠n:=by rintro rfl;exact h v List.mem_cons_self
   simp [this]
theorem Xc{kindOf:Str->Option NameKind}{x:Str}{v:Value}:∀{P:List Str}{vs:List Value}{i:Nat}{m:Str->Option Value},P.Nodup->P[i]?=some x->vs[i]?=some v->kindOf x=some .local->
 bindL kindOf (P.zip vs) m x=some v
 | [],_,_,_,_,h,_,_=>by simp at h
 | _::_,[],_,_,_,_,h,_=>by simp at h
 | p::P,w::vs,0,m,nd,h1,h2,hk=>by
  simp at h1 h2;subst h1;subst h2;show bindL kindOf ((p,w)::P.zip vs) m p=_;unfold bindL;rw [Xg λv G=>(List.nodup_cons.mp nd).1 (List.of_mem_zip G).1,if_pos hk];simp
 | p::P,w::vs,i+1,m,nd,h1,h2,hk=>by
  show bindL kindOf ((p,w)::P.zip vs) m x=_;unfold bindL;exact Xc (i:=i) (List.nodup_cons.mp nd).2 (by simpa using h1) (by simpa using h2) hk
theorem JU{kindOf:Str->Option NameKind}{x:Str}{v:Value}:∀{P:List Str}{vs:List Value}{i:Nat}{m:Str->Option Value},P.Nodup->P[i]?=some x->vs[i]?=some v->kindOf x≠some .local->
 bindC kindOf (P.zip vs) m x=some v
 | [],_,_,_,_,h,_,_=>by simp at h
 | _::_,[],_,_,_,_,h,_=>by simp at h
 | p::P,w::vs,0,m,nd,h1,h2,hk=>by
  simp at h1 h2;subst h1;subst h2;show bindC kindOf ((p,w)::P.zip vs) m p=_;unfold bindC;rw [Xf λv G=>(List.nodup_cons.mp nd).1 (List.of_mem_zip G).1,if_neg hk];simp
 | p::P,w::vs,i+1,m,nd,h1,h2,hk=>by
  show bindC kindOf ((p,w)::P.zip vs) m x=_;unfold bindC;exact JU (i:=i) (List.nodup_cons.mp nd).2 (by simpa using h1) (by simpa using h2) hk
def start(N:List Str)(vs:List V):St:=vs.map some++List.replicate (N.length-vs.length) none
def W2(CX:CXT)(P:Program)(w:World)(K:Fg)(mg:Str->Option Value)(base:Heap)(N:List Str)(qual:Str)(scope:Scope)(f:Addr)(cd:Value)(A:Around)(outer:List Env)(s:Shared)(H:Hp)(E:XK):Cx where
 prog:=P
 w:=w
 K:=K
 mg:=mg
 base:=base
 A:=A.deeper (envOfC qual scope s.heap.objs.size f cd)
 N:=N
 s₀:=s
 H₀:=H
 env:=envOfC qual scope s.heap.objs.size f cd
 outer:=outer
 stack:=envOfC qual scope s.heap.objs.size f cd::outer
 ex:=[]
 calm:=true
 fn:=λ_=>true
 pn:=[]
 xe:=λe s'=>wpAny (model P w) (A.deeper (envOfC qual scope s.heap.objs.size f cd)) (leaving (envOfC qual scope s.heap.objs.size f cd) e) (λ_ s''=>CX outer H s E e s'') (λe' s''=>CX outer H s E e' s'') s'
theorem Ww{sc:Scope}{n:Nat}{x:Str}(h:sc.names.lookup x=some .cell):∃c,(cellsFrom n sc.names []).lookup x=some c:=by
 have q:=PySem.W.cellsFrom_some sc.names n [] (.inl h);exact Option.isSome_iff_exists.mp q
theorem Lo{CX:CXT}{P:Program}{w:World}{K:Fg}{mg:Str->Option Value}{base:Heap}{N ps:List Str}{qual:Str}{scope:Scope}{f:Addr}{cd:Value}{A:Around}{outer:List Env}{s s1:Shared}{H:Hp}{E:XK}{us:List Value}{vs:List V}
 (S:FnScope N ps scope) (hd:A.handled=none) (e0:Env0 P w K mg base A outer s H) (hl:vs.length=ps.length) (r:Vals vs us)
 (x:InCallC s s.heap.objs.size (bindL (envOfC qual scope s.heap.objs.size f cd).kindOf (ps.zip us) λ_=>none) (cellsFrom (16:) scope.names []) (bindC (envOfC qual scope s.heap.objs.size f cd).kindOf (ps.zip us) λ_=>none) s1):
 Inv (W2 CX P w K mg base N qual scope f cd A outer s H E) [] (start N vs) H s1:=by
 have Z:ps.length<=N.length:=by have:=congrArg List.length S.pre;rw [List.length_take]at this;lia
 obtain⟨h1,tk,rfl,L⟩:=x.done;have G:∀b:Addr,b∉(W2 CX P w K mg base N qual scope f cd A outer s H E).ex:=λb z=>absurd (show b∈([]:List Addr)from z) (22:);refine⟨⟨e0.mod,S.kind,rfl,rfl,Nat.le_refl _,λy z c h1 h2=>?_,λy hy=>?_,λy c _ h=>?_,λ_=>hd,Around.frames_deeper e0.frames,.inr ⟨rfl,rfl⟩,λb z=>absurd z (G b),e0.bs,e0.bsz,λb _ _=>G b,λb z=>absurd z (G b),e0.funs,e0.frf⟩,rfl,e0.bare,Un.kept L,⟨_,x.toInCall.ns,λi y v h1 h2 h3=>?_⟩,λy c h=>⟨_,x.cell y c h⟩,e0.hok.fresh (5:),λy c h=>?_,λp hp=>absurd (show p∈([]:List (8:))from hp) (22:),e0.hok.kept L,?_⟩
 .exact name_of_addr x.apart (PySem.mem_of_lookup h1) (PySem.mem_of_lookup h2)
 .have hy:scope.names.lookup y=some .cell\/scope.names.lookup y=some .free:=hy;rcases hy with hy | hy
  .exact Ww hy
  .exact absurd rfl (S.nofree _ (PySem.mem_of_lookup hy))
 .exact Nat.le_of_lt (x.above y c (PySem.mem_of_lookup h))
 .have hi:i<vs.length:=by
   unfold start at h2
   by_cases hi:i<vs.length
   .exact hi
   .rw [List.getElem?_append_right (by simpa using hi)]at h2;rw [List.getElem?_replicate]at h2;split at h2<;>cases h2
  have U:vs[i]?=some v:=by
   unfold start at h2;rw [List.getElem?_append_left (by simpa using hi),List.getElem?_map]at h2;cases e:vs[i]? with
   | none=>rw [e]at h2;cases h2
   | some a=>rw [e]at h2;cases h2;rfl
  obtain⟨u,M,Y⟩:=r.get U;have hp:ps[i]?=some y:=by
   rw [<-S.pre,List.getElem?_take_of_lt (3:)];exact h1
  have J:ps.Nodup:=by rw [<-S.pre];exact S.nd.sublist (List.take_sublist _ _)
  refine⟨u,Y,?_⟩;rcases S.par y (List.mem_of_getElem? hp)with k | k
  .exact .inl ⟨k,Xc J hp M k⟩
  .obtain⟨c,e⟩:=Ww (n:=s.heap.objs.size+1) k;refine .inr ⟨.inl k,c,e,?_⟩;have q:=x.cell y c e;rw [JU J hp M (by show scope.names.lookup y≠_;rw [k];decide)]at q;exact q
 .exact e0.hok.fresh (Nat.le_of_lt (x.above y c (PySem.mem_of_lookup h)))
 .unfold start;show _=N.length;rw [List.length_append,List.length_map,List.length_replicate];lia
theorem ON{CX:CXT}{P:Program}{w:World}{K:Fg}{mg:Str->Option Value}{base:Heap}{k:Nat}{f:Addr}{name qual:Str}{params:Arguments}{body:List Stmt}{scope:Scope}{dV kV doc pm cdv ct oc:Value}{an od:Option Addr}
 {osl:Array (Option Value)} {N ps:List Str} {sp:Sp} (lk:K.lookup f=some ⟨oc,od,.func (PySem.W.fnOf name qual params body scope dV kV doc pm an cdv ct),osl⟩) (hcd:PySem.W.codeIn K cdv qual=true) (S:FnScope N ps scope)
 (len:∀vs H Q E,sp vs H Q E->vs.length=ps.length)
 (hbody:∀(A:Around)(outer:List Env)(s:Shared)(H:Hp)(vs:List V)(Q:VK)(E:XK),Room k (A.deeper (envOfC qual scope s.heap.objs.size f cdv))->sp vs H Q E->
  ∃t,PSs (W2 CX P w K mg base N qual scope f cdv A outer s H E) body t/\t { nx:=λ_ H'=>Q .non H',rt:=Q } (start N vs) H):
 FnOk P w K mg base CX (k+1) f (PySem.W.fnOf name qual params body scope dV kV doc pm an cdv ct) ps sp:=by
 refine⟨len,λA outer s H ab us vs Q E Z L hb r Y=>?_⟩;have hl:=len _ _ _ _ Y;have KX:K.In s.heap:=L.mod.kin.keeps λb o e=>(L.bs b o e).1;have aa:s.heap.NoLimit:=L.mod.nolimit.keeps λb o e=>(L.bs b o e).1;have M:∀y∈ps.zip us,scope.names.lookup y.1=some .local\/(scope.names.lookup y.1=some .cell/\((cellsFrom (16:) scope.names []).lookup y.1).isSome=true):=λ⟨n,v⟩ hy=>by
  rcases S.par n (List.of_mem_zip hy).1 with q | q
  .exact .inl q
  .exact .inr ⟨q,PySem.W.cellsFrom_some _ _ _ (.inl q)⟩
 refine codeAny_call_function Z.depth (KX _ _ lk) rfl S.co S.gen rfl (PySem.W.codeRec_of KX hcd) (hb _ _ _ _ ?_);refine wpAny_newFunctionEnv_cells S.kind M λac he s1 x=>?_;subst he;refine⟨aa.keeps x.toInCall.keep,codeAny_func ?_⟩;obtain⟨t,ht,hq⟩:=hbody A outer s H vs Q E (Z.deeper _) Y;have I:Inv (W2 CX P w K mg base N qual scope f cdv A outer s H E) [] (start N vs) H s1:=Lo S Z.hd L hl r x;refine wpAny_mono (ht [] s1 (start N vs) H _ I hq) (λfl s' G=>?_) λe s' G=>G;have fin:∀{U:St}{H':Hp}{v:V}{u:Value},Inv (W2 CX P w K mg base N qual scope f cdv A outer s H E) [] U H' s'->RelV v u->Q v H'->CE outer P w H s Q u s':=
  λ{U H' v u} J rv q=>⟨v,H',J.os,J.bare,J.base,J.hok,rv,q⟩
 cases fl with
 | ret u=>
  obtain⟨v,U,H',J,rv,q⟩:=G;exact fin J rv q
 | next=>
  obtain⟨U,H',J,q⟩:=G;exact fin (v:=V.non) (u:=Value.none) J rfl q
 | brk=>
  obtain⟨_,_,_,q⟩:=G;exact False.elim q
 | cont=>
  obtain⟨_,_,_,q⟩:=G;exact False.elim q
end L2
namespace L2
open PySem PySem.Spec PyProof.Rows
section
variable{X:Cx}{x:Str}{p pos:Pos}{e:Expr}{es:List Expr}{t:TA}{id T:String}{r:List V->Hp->VK->Prop}
def tCB(r:List V->Hp->VK->Prop)(t:TA):TE:=λσ H Q=>t σ H λvs H1=>r vs H1 Q
theorem Qn(hc:QV X (.builtin id) r)(hg:Gl X x)(hm:X.mg x=none)(hv:bootBuiltins x=some (.builtin id))(ha:PA X (e::es) t)(hn:x≠"__name__":=by decide)(hdb:(42:)=false:=by decide)
 (he:starEach (e::es) X.env=(false,eval e X.env)::starEach es X.env:=by rfl) (hpl:(52:).any (·.1)=false:=by rfl):PE X (.Call (.Name x p) (e::es) [] pos) (tCB r t):=by
 intro pins s σ H Q I h;refine wpAny_Call_Name_kw (Z7 I hg hm hv ?_ hn hdb);exact PyProof.Rows.callWith_builtin1 (thn (ha pos pins s σ H _ I h) λG J ⟨vs,H1,L,M,U⟩=>hc pins J σ H1 vs G Q L M U) he hpl
theorem QR(hc:QV X (.type T) r)(hg:Gl X x)(hm:X.mg x=none)(hv:bootBuiltins x=some (.type T))(ha:PA X (e::es) t)(hn:x≠"__name__":=by decide)(hdb:(42:)=false:=by decide)
 (he:starEach (e::es) X.env=(false,eval e X.env)::starEach es X.env:=by rfl) (hpl:(52:).any (·.1)=false:=by rfl):PE X (.Call (.Name x p) (e::es) [] pos) (tCB r t):=by
 intro pins s σ H Q I h;refine wpAny_Call_Name_kw (Z7 I hg hm hv ?_ hn hdb);exact PyProof.Rows.callWith_type1 (thn (ha pos pins s σ H _ I h) λG J ⟨vs,H1,L,M,U⟩=>hc pins J σ H1 vs G Q L M U) he hpl
end
end L2
namespace HT
open PySem PyProof.Rows
def OM:List Int->List Int->Bool
 | [],[]=>false
 | [],_::_=>true
 | _::_,[]=>false
 | x::xs,y::ys=>if x=y then OM xs ys else decide (x<y)
section
open PySem.SeqAt
open PySem.AutoSeq1 (wpAny_loadPart')
open PySem.MeetsSeq PySem.MeetsSeq2 PySem.MeetsSeq3
end
section
variable{prog:Program}{w:World}{A:Around}{E:Value->Shared->Prop}{s:Shared}
theorem cat_tup{t b:Addr}{vs ws:List Value}{Q:Value->Shared->Prop}(ht:IsTup s.heap t vs.toArray)(hb:IsTup s.heap b ws.toArray)(hv:vs≠[])
 (h1:ws=[]->Q (.ref t) s) (h2:ws≠[]->Q (33:) { s with heap:=s.heap.push { cls:=.type "tuple",data:=.seq (vs++ws).toArray } })
 (hsz:vs.length+ws.length<=sizeLine):wpAny (15:) A (binaryOp .Add (.ref t) (.ref b)) Q E s:=by
 obtain⟨⟨cls,dd,data,sl⟩,J,hc,n,hd⟩:=id ht;obtain⟨⟨ab,M,aa,U⟩,G,Y,n2,Z⟩:=id hb;simp only at hc hd Y Z;subst hc hd Y Z;have e:vs.toArray++ws.toArray=(vs++ws).toArray:=by simp
 by_cases L:ws=[]
 .exact concat_meets ⟨_,J,rfl⟩ ⟨_,G,rfl⟩ noFill_tuple_add seq_tuple_add PySem.F.slot_tuple_add PySem.F.entry_tuple_add (PySem.F.args_tuple_add_2 _ _)
   (tuple_addW1 t b vs.toArray ws.toArray n n2 dd M sl U (by simpa using hv) (by simp [L])) ⟨J,G,h1 L⟩
 .refine concat_meets ⟨_,J,rfl⟩ ⟨_,G,rfl⟩ noFill_tuple_add seq_tuple_add PySem.F.slot_tuple_add PySem.F.entry_tuple_add (PySem.F.args_tuple_add_2 _ _)
   (tuple_addW2 t b vs.toArray ws.toArray n n2 dd M sl U (by simpa using hv) (by simpa using L) (by rw [List.size_toArray,List.size_toArray];exact hsz)) ⟨J,G,?_⟩
  rw [e];exact h2 L
def sIx(n d:Nat):Option Int->Nat
 | none=>d
 | some v=>if v<0 then(v+(n:Int)).toNat else min v.toNat n
theorem sIx_none(n d:Nat):sIx n d none=d:=rfl
theorem sIx_nat(n d k:Nat):sIx n d (some (k:Int))=min k n:=by
 show(if(k:Int)<0 then((k:Int)+(n:Int)).toNat else min (k:Int).toNat n)=min k n;rw [if_neg (3:),Int.toNat_natCast]
theorem Pl(n d:Nat)(hd:d<=n)(o:Option Int):sIx n d o<=n:=by
 cases o with
 | none=>exact hd
 | some v=>
  show(if v<0 then(v+(n:Int)).toNat else min v.toNat n)<=n
  by_cases G:v<0
  .rw [if_pos G];lia
  .rw [if_neg G];exact Nat.min_le_right _ _
theorem Gx(v:Int)(n d:Nat):(if v<0 then max (v+(n:Int)) 0 else min v (n:Int))=((sIx n d (some v):Nat):Int):=by
 show(if v<0 then max (v+(n:Int)) 0 else min v (n:Int))=(((if v<0 then(v+(n:Int)).toNat else min v.toNat n):Nat):Int)
 by_cases G:v<0
 .simp only [if_pos G];lia
 .simp only [if_neg G];lia
theorem Ve(lo hi:Option Int)(n:Nat):Builtin.Slice.sliceAdjust lo hi 1 (n:Int)=(((sIx n 0 lo:Nat):Int),((sIx n n hi:Nat):Int)):=by
 have h1:¬((1:Int)<0):=by lia
 unfold Builtin.Slice.sliceAdjust;simp only [h1,if_false];refine Prod.ext ?_ ?_
 .cases lo with
  | none=>rfl
  | some v=>exact Gx v n 0
 .cases hi with
  | none=>rfl
  | some v=>exact Gx v n n
theorem Vd(i j:Nat):Builtin.Slice.slicePlaces (i:Int) (j:Int) 1=j-i:=by
 unfold Builtin.Slice.slicePlaces;have h1:(1:Int)>0:=by lia
 simp only [h1,if_true,Int.ediv_one];split<;>lia
theorem JD{v:Value}{o:Option Int}{Q:Option Int->Shared->Prop}(p:IsPart v o)(h:Q o s):wpAny (15:) A (Builtin.Slice.slicePartIndex v) Q E s:=by
 cases p with
 | none=>exact slicePart_none h
 | int i t=>exact slicePart_int h
theorem ZX{sl:Addr}{vl vu:Value}{lo hi:Option Int}{n:Nat}{Q:Int×Int×Nat->Shared->Prop}(hs:s.heap.IsSliceOf sl vl vu .none)(pl:IsPart vl lo)(pu:IsPart vu hi)
 (h:Q (((sIx n 0 lo:Nat):Int),1,sIx n n hi-sIx n 0 lo) s):wpAny (15:) A (Builtin.Slice.sliceApplied (.ref sl) (pure (n:Int))) Q E s:=by
 obtain⟨M,G,L,J⟩:=id hs;unfold Builtin.Slice.sliceApplied Builtin.Slice.sliceFields;refine wpAny_bind (wpAny_bind (wpAny_field G J (x:=vl) rfl (wpAny_bind (wpAny_field G J (x:=vu) rfl (wpAny_bind (wpAny_field G J (x:=.none) rfl (wpAny_pure ?_)))))));refine wpAny_bind (slicePart_none ?_);show wpAny _ _ (if((1:Int)==0)=true then _ else _) _ _ s;rw [if_neg (12:)];refine wpAny_bind (JD pl (wpAny_bind (JD pu (wpAny_bind (wpAny_pure ?_)))));show wpAny _ _ (match Builtin.Slice.sliceAdjust lo hi 1 (n:Int)with | (lo,hi)=>pure (lo,(1:Int),Builtin.Slice.slicePlaces lo hi 1)) _ _ s;rw [Ve lo hi n];show wpAny _ _ (pure (((sIx n 0 lo:Nat):Int),(1:Int),Builtin.Slice.slicePlaces ((sIx n 0 lo:Nat):Int) ((sIx n n hi:Nat):Int) 1)) _ _ s;rw [Vd];exact wpAny_pure h
theorem LG(xs:Array Value)(i k:Nat):((List.range k).filterMap λ(m:Nat)=>xs[((i:Int)+(m:Int)*1).toNat]?).toArray=((xs.toList.drop i).take k).toArray:=by
 have e:(λ(m:Nat)=>xs[((i:Int)+(m:Int)*1).toNat]?)=λm=>xs[i+m]?:=by
  funext m
  have:((i:Int)+(m:Int)*1).toNat=i+m:=by lia
  rw [this]
 rw [e];have:=pick_run xs i k;rw [List.filterMap_map]at this;have G:((λx=>xs[x]?)∘λx=>i+x)=λm=>xs[i+m]?:=rfl;rw [G]at this;rw [this]
theorem getItem_tuple_cut{t sl:Addr}{items:Array Value}{vl vu:Value}{lo hi:Option Int}{Q:Value->Shared->Prop}(ht:IsTup s.heap t items)(hs:s.heap.IsSliceOf sl vl vu .none)(pl:IsPart vl lo)(pu:IsPart vu hi)
 (hw:¬(sIx items.size 0 lo=0/\sIx items.size items.size hi=items.size))
 (h:Q (33:) { s with heap:=s.heap.push { cls:=.type "tuple",data:=.seq ((items.toList.drop (sIx items.size 0 lo)).take (sIx items.size items.size hi-sIx items.size 0 lo)).toArray } })
 (hsz:items.size<=sizeLine):wpAny (15:) A (getItem (.ref t) (.ref sl)) Q E s:=by
 have G:sizeOk (.seq ((items.toList.drop (sIx items.size 0 lo)).take (sIx items.size items.size hi-sIx items.size 0 lo)).toArray):=by
  show((items.toList.drop (sIx items.size 0 lo)).take (sIx items.size items.size hi-sIx items.size 0 lo)).toArray.size<=sizeLine;rw [List.size_toArray,List.length_take,List.length_drop,Array.length_toList];lia
 have hj:sIx items.size items.size hi<=items.size:=Pl _ _ (5:) hi;obtain⟨Y,J,L,Z⟩:=id hs;have M:s.TypeIs (.ref sl) "slice":=⟨Y,J,L⟩;unfold getItem
 try with_reducible refine wpAny_holding ?_
 first | refine wpAny_bind (wpAny_pure ?_) | skip
 refine wpAny_bind (wpAny_sequenceKey ht.typeIs (12:) ?_);refine wpAny_bind (wpAny_callSpecial?_slot (name:=Str.ofString "__getitem__") ht.typeIs PyProof.Rows.slot_tuple_getitem
  (wpAny_call_entry PyProof.Rows.slot_tuple_getitem ht.typeIs entry_tuple_getitem ?_ (args_tuple_getitem _ _)))
 show wpAny _ _ (Builtin.Tuple.tupleItemsOf (.ref t)>>=_) _ _ s;refine wpAny_bind (tupleItemsOf_ ht ?_);refine wpAny_bind (wpAny_typeOf M ?_);rw [if_pos (12:)];refine wpAny_bind (ZX hs pl pu ?_);have U:¬((20:)=true):=by
  intro q;rw [Bool.and_eq_true,Bool.and_eq_true]at q;have q1:((sIx items.size 0 lo:Nat):Int)=0:=eq_of_beq q.1.1;have q2:sIx items.size items.size hi-sIx items.size 0 lo=items.size:=eq_of_beq q.2;exact hw ⟨by lia,by lia⟩
 show wpAny _ _ (if(20:)=true then _ else _) _ _ s;rw [if_neg U,LG]
 first
  | exact wpAny_bind (m:=Builtin.Tuple.tupleExact _) (wpAny_newObj_type (wpAny_pure ⟨_,rfl,wpAny_pure h⟩) G)
  | exact wpAny_bind (m:=Builtin.Tuple.tupleExact _) (wpAny_newObj_type (wpAny_bind (wpAny_pure (wpAny_pure ⟨_,rfl,wpAny_pure h⟩))) G)
  | exact wpAny_bind (wpAny_bind (m:=Builtin.Tuple.tupleExact _) (wpAny_newObj_type (wpAny_pure (wpAny_pure ⟨_,rfl,wpAny_pure h⟩)) G))
  | exact wpAny_bind (wpAny_bind (m:=Builtin.Tuple.tupleExact _) (wpAny_newObj_type (wpAny_pure ⟨_,rfl,wpAny_pure h⟩) G))
end
end HT
namespace L2
open PySem PySem.Spec PyProof.Rows
abbrev TO:=St->Hp->(Option Int->Hp->Prop)->Prop
def PO(X:Cx)(e:Option Expr)(t:TO):Prop:=
 ∀(pins:List (8:))(s:Shared)(σ:St)(H:Hp)(Q:Option Int->Hp->Prop),Inv X pins σ H s->t σ H Q->
  wpAny (4:) X.A (evalPart e X.env) (λu s'=>∃o H',Inv X pins σ H' s'/\IsPart u o/\Q o H') X.xe s
def Ow:TO:=λ_ H Q=>Q none H
def R1(t:TE):TO:=λσ H Q=>t σ H λx H1=>∃i,x=.int i/\Q (some i) H1
section
variable{X:Cx}{e:Expr}{te:TE}{lo hi:Option Expr}{tl th:TO}{pos p2:Pos}
theorem XL:PO X none Ow:=by
 intro pins s σ H Q I h;rw [evalPart_none];exact wpAny_pure ⟨none,H,I,.none,h⟩
theorem XH(h:PE X e te):PO X (some e) (R1 te):=by
 intro pins s σ H Q I G;rw [evalPart_some];refine thn (h pins s σ H _ I G) λu U ⟨x,H1,J,L,M⟩=>?_;obtain⟨i,rfl,q⟩:=M;obtain⟨t,rfl⟩:=L;exact⟨some i,H1,J,.int i t,q⟩
def SlR(X:Cx)(r:V->Option Int->Option Int->Hp->VK->Prop):Prop:=
 ∀(pins:List (8:))(s:Shared)(σ:St)(H:Hp)(x:V)(v vl vu:Value)(lo hi:Option Int)(sl:Addr)(Q:VK),Inv X pins σ H s->RelV x v->s.heap.IsSliceOf sl vl vu .none->IsPart vl lo->IsPart vu hi->r x lo hi H Q->
  ∃T id,typeLookup (.type T) "__getitem__"=pure (some (.builtin id))/\s.TypeIs v T/\wpAny (4:) X.A (getItem v (.ref sl)) (EP X pins σ Q) X.xe s
def tSl(r:V->Option Int->Option Int->Hp->VK->Prop)(te:TE)(tl th:TO):TE:=λσ H Q=>te σ H λx H1=>tl σ H1 λl H2=>th σ H2 λu H3=>r x l u H3 Q
theorem Jt{r:V->Option Int->Option Int->Hp->VK->Prop}(hr:SlR X r)(he:PE X e te)(hl:PO X lo tl)(hu:PO X hi th):PE X (.Subscript e (.Slice lo hi none p2) pos) (tSl r te tl th):=by
 intro pins s σ H Q I h;refine Subscript_ (thn (he pins s σ H _ I h) λv U ⟨x,H1,Y,Z,q1⟩=>?_);refine wpAny_Slice (thn (hl pins U σ H1 _ Y q1) λJ s2 ⟨l,H2,I2,pl,q2⟩=>thn (hu pins s2 σ H2 _ I2 q2) λL G ⟨u,M,I3,pu,q3⟩=>?_);rw [evalPart_none];refine wpAny_pure ?_;have I4:Inv X pins σ M { G with heap:=G.heap.push { cls:=.type "slice",data:=.fields #[J,L,.none] } }:=I3.kept (t':=G.toks) λb ob q=>Heap.get?_push_of_some _ q;obtain⟨T,id,hT,ht,hg⟩:=hr pins { G with heap:=G.heap.push { cls:=.type "slice",data:=.fields #[J,L,.none] } } σ M x v J L l u G.heap.objs.size Q I4 Z (Heap.IsSliceOf.new ..) pl pu q3;show wpAny (4:) X.A (subscriptTail e (.Slice lo hi none p2) v (.ref G.heap.objs.size)) (EP X pins σ Q) X.xe { G with heap:=G.heap.push { cls:=.type "slice",data:=.fields #[J,L,.none] } };exact tail_any (ops:=[.ref G.heap.objs.size,v]) ht hT hg (by with_unfolding_all rfl)
def Y0(xs:List V)(lo hi:Option Int):List V:=(xs.drop (HT.sIx xs.length 0 lo)).take (HT.sIx xs.length xs.length hi-HT.sIx xs.length 0 lo)
theorem QE(xs:List V)(lo hi:Option Int):(Y0 xs lo hi).length<=xs.length:=by
 unfold Y0;rw [List.length_take,List.length_drop];lia
def Tj(K:Fg):V->Option Int->Option Int->Hp->VK->Prop:=λx lo hi H Q=>∃a xs,x=.ref a/\SqT K H a xs/\
 ¬(HT.sIx xs.length 0 lo=0/\HT.sIx xs.length xs.length hi=xs.length)/\∀p,H p=none->Q (.ref p) (upd H p (.tup (Y0 xs lo hi)))
theorem Px:SlR X (Tj X.K):=by
 intro pins s σ H x v vl vu lo hi sl Q I M U pl Y h;obtain⟨a,xs,rfl,Z,hw,q⟩:=h;cases M;obtain⟨its,r,J,L⟩:=I.tuple Z;have G:its.toArray.size=xs.length:=by rw [List.size_toArray];exact r.length.symm
 refine⟨"tuple",_,PyProof.Rows.slot_tuple_getitem.lookup,J.typeIs,?_⟩;refine HT.getItem_tuple_cut J U pl Y (by rw [G];exact hw) ?_ (by rw [G];exact L);rw [G];refine⟨.ref s.heap.objs.size,_,I.laid (t':=s.toks) (o:=.tup (Y0 xs lo hi)) (λb ob q=>Heap.get?_push_of_some _ q) (5:) ?_,rfl,q _ (I.hok.fresh (5:))⟩;exact⟨Nat.le_trans (QE xs lo hi) L,_,(r.drop (HT.sIx xs.length 0 lo)).take (HT.sIx xs.length xs.length hi-HT.sIx xs.length 0 lo),IsTup.new _ _⟩
def SJ(K:Fg):R2:=λx y H Q=>∃a b xs ys,x=.ref a/\y=.ref b/\SqT K H a xs/\SqT K H b ys/\xs≠[]/\xs.length+ys.length<=sizeLine/\
 (ys=[]->Q (.ref a) H)/\(ys≠[]->∀p,H p=none->Q (.ref p) (upd H p (.tup (xs++ys))))
theorem Vals.nil_iff{xs:List V}{us:List Value}(r:Vals xs us):us=[]↔xs=[]:=by
 cases r with
 | nil=>simp
 | cons _ _=>simp
theorem Os:OpR X (binaryOp .Add) (SJ X.K):=by
 intro pins s σ H x y v u Q I M U h;obtain⟨a,b,xs,ys,rfl,rfl,Y,Z,hx,L,q1,q2⟩:=h;cases M;cases U;obtain⟨its,J,p1,_⟩:=I.tuple Y;obtain⟨aa,G,p2,_⟩:=I.tuple Z;refine HT.cat_tup p1 p2 (λz=>hx (J.nil_iff.mp z)) (λz=>⟨.ref a,H,I,rfl,q1 (G.nil_iff.mp z)⟩) (λz=>?_) (by rw [<-J.length,<-G.length];exact L);refine⟨.ref s.heap.objs.size,_,I.laid (t':=s.toks) (o:=.tup (xs++ys)) (λb ob q=>Heap.get?_push_of_some _ q) (5:) ?_,rfl,q2 (λw=>z (G.nil_iff.mpr w)) _ (I.hok.fresh (5:))⟩;exact⟨by rw [List.length_append];exact L,_,J.append G,IsTup.new _ _⟩
end
end L2
namespace L2
open PySem PySem.Spec PyProof.Rows
def ixN(n:Nat)(i:Int):Option Nat:=if 0<=i then(if i<n then some i.toNat else none)else if-(n:Int)<=i then some (i+n).toNat else none
def atI{α:Type}(xs:List α)(i:Int):Option α:=(ixN xs.length i).bind λj=>xs[j]?
theorem Gb{n:Nat}{i:Int}{j:Nat}(h:ixN n i=some j):seqIndex? i n=some j/\j<n/\-(n:Int)<=i/\i<n:=by
 unfold ixN at h
 by_cases G:0<=i
 .rw [if_pos G]at h
  by_cases h1:i<n
  .rw [if_pos h1]at h;have e:i.toNat=j:=Option.some.inj h;exact⟨by rw [seqIndex_of G h1,e],by lia,by lia,h1⟩
  .rw [if_neg h1]at h;cases h
 .rw [if_neg G]at h
  by_cases h1:-(n:Int)<=i
  .rw [if_pos h1]at h;have e:(i+n).toNat=j:=Option.some.inj h;exact⟨by rw [seqIndex_neg (3:) h1,e],by lia,h1,by lia⟩
  .rw [if_neg h1]at h;cases h
theorem X0{α:Type}{xs:List α}{i:Int}{v:α}(h:atI xs i=some v):∃j,seqIndex? i xs.length=some j/\xs[j]?=some v/\j<xs.length/\-(xs.length:Int)<=i/\i<xs.length:=by
 unfold atI at h;cases e:ixN xs.length i with
 | none=>rw [e]at h;cases h
 | some j=>
  rw [e]at h;obtain⟨h1,h2,G,J⟩:=Gb e;exact⟨j,h1,h,h2,G,J⟩
theorem QB{α:Type}{xs:List α}{j:Nat}{v:α}(h:xs[j]?=some v):atI xs (j:Int)=some v:=by
 have G:j<xs.length:=(List.getElem?_eq_some_iff.mp h).1;have e:ixN xs.length (j:Int)=some j:=by
  unfold ixN;rw [if_pos (3:),if_pos (3:)];simp
 unfold atI;rw [e];exact h
def Gw(b:Expr):Prop:=∀o i,subscripted b false o i=operate [o,i] (getItem o i)
def IxR(X:Cx)(r:R2):Prop:=
 ∀(value slice:Expr)(pins:List (8:))(s:Shared)(σ:St)(H:Hp)(x y:V)(v u:Value)(Q:VK),Inv X pins σ H s->RelV x v->RelV y u->r x y H Q->
  subscripted slice false v u=operate [v,u] (getItem v u)->wpAny (4:) X.A (subscriptTail value slice v u) (EP X pins σ Q) X.xe s
def MtR(X:Cx)(id:String)(r:V->List V->Hp->VK->Prop):Prop:=
 ∀(pins:List (8:))(s:Shared)(σ:St)(H:Hp)(x:V)(xs:List V)(v:Value)(us:List Value)(Q:VK),Inv X pins σ H s->RelV x v->Vals xs us->r x xs H Q->
  wpAny (4:) X.A (call (.builtin id) (v::us)) (EP X pins σ Q) X.xe s
section
variable{X:Cx}{a b:Expr}{ta tb:TE}{pos:Pos}
theorem Qk{r:R2}(hr:IxR X r)(ha:PE X a ta)(hb:PE X b tb)(hs:Gw b):PE X (.Subscript a b pos) (tOp r ta tb):=by
 intro pins s σ H Q I h;exact Subscript_ (Ph ha hb I h λv u G x y H2 J L M q=>hr a b pins G σ H2 x y v u Q J L M q (hs _ _))
def X5(K:Fg):R2:=λx y H Q=>∃p xs i v,x=.ref p/\y=.int i/\SqL K H p xs/\atI xs i=some v/\Q v H
def JL(K:Fg):R2:=λx y H Q=>∃p xs i v,x=.ref p/\y=.int i/\SqT K H p xs/\atI xs i=some v/\Q v H
def SS:R2:=λx y H Q=>∃z i c,x=.str z/\y=.int i/\z.length<=sizeLine/\atI z.cps.toList i=some c/\Q (.str ⟨#[c]⟩) H
theorem Qw:IxR X (X5 X.K):=by
 intro value Y pins s σ H x y v u Q I Z ry h J;obtain⟨p,xs,i,z,rfl,rfl,hq,he,q⟩:=h;cases Z;obtain⟨t,rfl⟩:=ry;obtain⟨its,r,pl,hz⟩:=I.list hq;obtain⟨j,h1,h2,h3,h4,h5⟩:=X0 he;obtain⟨w,L,M⟩:=r.get h2;have hl:=r.length;have hn:=UB;have fin:EP X pins σ Q w s:=⟨z,H,I,M,q⟩
 by_cases U:0<=i
 .have G:i.toNat=j:=by
   rw [seqIndex_of U h5]at h1;exact Option.some.inj h1
  exact item_listR pl.isList U (3:) (by rw [G];simpa using L) fin J
 .have G:(i+(its.toArray.size:Int)).toNat=j:=by
   rw [seqIndex_neg (3:) h4]at h1;rw [List.size_toArray,<-hl];exact Option.some.inj h1
  exact subscriptTail_builtinR (x:=w) pl.isList.typeIs slot_list_getitem.lookup
   (wpAny_getItem_list_neg (Q:=λr s'=>r=w/\EP X pins σ Q r s') pl.isList (3:) (by rw [List.size_toArray]<;>lia) (3:) (by rw [G];simpa using L) ⟨rfl,fin⟩) J
theorem Qj:IxR X (JL X.K):=by
 intro value J pins s σ H x y v u Q I L M h U;obtain⟨p,xs,i,z,rfl,rfl,Y,Z,q⟩:=h;cases L;obtain⟨t,rfl⟩:=M;obtain⟨its,r,pl,hz⟩:=I.tuple Y;obtain⟨j,h1,h2,h3,h4,h5⟩:=X0 Z;obtain⟨w,ew,G⟩:=r.get h2;have hl:=r.length;have hn:=UB;have fin:EP X pins σ Q w s:=⟨z,H,I,G,q⟩;exact subscriptTail_builtinR (x:=w) pl.typeIs slot_tuple_getitem.lookup
  (getItem_tuple (j:=j) (Q:=λr s'=>r=w/\EP X pins σ Q r s') pl (3:) (3:) (by rw [List.size_toArray,<-hl];exact h1) (by simpa using ew) ⟨rfl,fin⟩) U
theorem MS:IxR X SS:=by
 intro value G pins s σ H x y v u Q I J L h M;obtain⟨z,i,c,rfl,rfl,hz,U,q⟩:=h;obtain⟨t,rfl⟩:=J;obtain⟨t',rfl⟩:=L;obtain⟨j,h1,h2,h3,Y,Z⟩:=X0 U;have hl:z.cps.toList.length=z.length:=by simp [Str.length]
 rw [hl]at h1 Y Z;have hn:=UB;exact tail_any (typeIs_str s z t) slot_str_getitem.lookup (getItem_str (c:=c) (by
  have e1:decide (i< -(2^63:Int))=false:=decide_eq_false (3:);have e2:decide (i>=2^63)=false:=decide_eq_false (3:);rw [e1,e2,Bool.or_false]) (by rw [h1];simpa using h2) ⟨.str ⟨#[c]⟩,H,I.tok _,⟨_,rfl⟩,q⟩) M
theorem VT(its:List Value)(n j:Nat)(u:Value):Obj.mapSeq (·.setIfInBounds j u) { cls:=.type "list",data:=.seq its.toArray n }={ cls:=.type "list",data:=.seq (its.set j u).toArray n }:=by
 simp [Obj.mapSeq]
theorem Inv.lst{pins:List (8:)}{σ:St}{H:Hp}{s:Shared}{p:Addr}{xs:List V}(I:Inv X pins σ H s)(h:H p=some (.lst xs)):
 ∃(its:List Value)(n:Nat),Vals xs its/\s.heap.get? p=some { cls:=.type "list",data:=.seq its.toArray n }/\xs.length<=sizeLine:=by
 obtain⟨z,its,n,r,e⟩:=I.hok p _ h;exact⟨its,n,r,e,z⟩
theorem Inv.lstUpd{pins:List (8:)}{σ:St}{H:Hp}{s:Shared}{p:Addr}{xs ys:List V}{its its':List Value}{n n':Nat}{f:Obj->Obj}(I:Inv X pins σ H s)(h:H p=some (.lst xs))
 (ho:s.heap.get? p=some { cls:=.type "list",data:=.seq its.toArray n }) (hf:f { cls:=.type "list",data:=.seq its.toArray n }={ cls:=.type "list",data:=.seq its'.toArray n' }) (r:Vals ys its') (hz:ys.length<=sizeLine) (t:Nat):
 Inv X pins σ (upd H p (.lst ys)) { s with heap:=s.heap.update p f,toks:=t }:=by
 have e:(s.heap.update p f).get? p=some { cls:=.type "list",data:=.seq its'.toArray n' }:=by
  rw [Heap.get?_update_self f ho (by rw [hf]<;>rfl),hf]
 refine I.write (x:=p) (e:=p) (by rw [h];trivial) (.inl rfl) (λb u G q=>(Heap.get?_update_other _ _ (Ne.symm G)).trans q) ⟨_,e⟩ ?_;exact⟨hz,its',n',r,e⟩
def SB:V->V->V->Hp->(Hp->Prop)->Prop:=λo i v H Q=>∃p xs k j,o=.ref p/\i=.int k/\H p=some (.lst xs)/\ixN xs.length k=some j/\Q (upd H p (.lst (xs.set j v)))
theorem WH:Si X SB:=by
 intro pins s σ H o i v ov iv u Q I ro ri rv h;obtain⟨p,xs,k,j,rfl,rfl,hp,hj,q⟩:=h;cases ro;obtain⟨t,rfl⟩:=ri;obtain⟨its,n,r,G,hz⟩:=I.lst hp;obtain⟨h1,h2,M,U⟩:=Gb hj;have J:=r.length;have hn:=UB;have Y:Inv X pins σ (upd H p (.lst (xs.set j v))) { s with heap:=s.heap.update p (Obj.mapSeq (·.setIfInBounds j u)) }:=
  I.lstUpd hp G (VT its n j u) (r.set rv j) (by rw [List.length_set];exact hz) s.toks
 by_cases Z:0<=k
 .have L:k.toNat=j:=by
   rw [seqIndex_of Z U]at h1;exact Option.some.inj h1
  exact PySem.W.ki_setAt G Z (3:) (by rw [List.size_toArray,<-J];exact U) (by rw [L];exact⟨_,Y,q⟩)
 .have L:(k+(its.toArray.size:Int)).toNat=j:=by
   rw [seqIndex_neg (3:) M]at h1;rw [List.size_toArray,<-J];exact Option.some.inj h1
  exact PySem.W.ki_setBack G (3:) (by rw [List.size_toArray,<-J];exact M) (3:) (by rw [L];exact⟨_,Y,q⟩)
theorem XD(lo hi:Option Int)(n:Nat):(sliceBounds lo hi none n).1=((HT.sIx n 0 lo:Nat):Int)/\(sliceBounds lo hi none n).2.1=((HT.sIx n n hi:Nat):Int)/\(sliceBounds lo hi none n).2.2=1:=by
 refine⟨?_,?_,rfl⟩
 .cases lo with
  | none=>simp [sliceBounds,HT.sIx]
  | some i=>
   simp only [sliceBounds,HT.sIx,Option.getD_none,show(1:Int)>0 by decide,if_true]
   by_cases h:i<0
   .simp only [h,if_true]<;>lia
   .simp only [h,if_false]<;>lia
 .cases hi with
  | none=>simp [sliceBounds,HT.sIx]
  | some i=>
   simp only [sliceBounds,HT.sIx,Option.getD_none,show(1:Int)>0 by decide,if_true]
   by_cases h:i<0
   .simp only [h,if_true]<;>lia
   .simp only [h,if_false]<;>lia
theorem JM(its:List Value)(lo hi:Option Int):slicePick its.toArray lo hi none=((its.drop (HT.sIx its.length 0 lo)).take (HT.sIx its.length its.length hi-HT.sIx its.length 0 lo)).toArray:=by
 obtain⟨h1,h2,G⟩:=XD lo hi its.toArray.size;unfold slicePick;rw [h1,h2,G];simp only [sliceRange_one,pick_run,List.size_toArray]<;>rfl
def Tg(K:Fg):V->Option Int->Option Int->Hp->VK->Prop:=λx lo hi H Q=>∃a xs,x=.ref a/\SqL K H a xs/\∀p,H p=none->Q (.ref p) (upd H p (.lst (Y0 xs lo hi)))
theorem Om:SlR X (Tg X.K):=by
 intro pins s σ H x v vl vu lo hi sl Q I L M pl U h;obtain⟨a,xs,rfl,Y,q⟩:=h;cases L;obtain⟨its,r,J,Z⟩:=I.list Y;have G:=r.length;refine⟨"list",_,slot_list_getitem.lookup,J.isList.typeIs,?_⟩;refine wpAny_getItem_list_slice J.isList M pl U .none (22:) ?_ (by rw [List.size_toArray]<;>lia);rw [JM,<-G];refine⟨.ref s.heap.objs.size,_,I.laid (t':=s.toks) (o:=.lst (Y0 xs lo hi)) (λb ob q=>Heap.get?_push_of_some _ q) (5:) ?_,rfl,q _ (I.hok.fresh (5:))⟩;exact⟨Nat.le_trans (QE xs lo hi) Z,_,0,(r.drop (HT.sIx xs.length 0 lo)).take (HT.sIx xs.length xs.length hi-HT.sIx xs.length 0 lo),Heap.get?_push_size _ rfl⟩
def YI:V->Bool
 | .non=>true
 | .bl _=>true
 | .int _=>true
 | .str _=>true
 | _=>false
def eqV:V->V->Bool
 | .non,.non=>true
 | .bl a,.bl b=>a==b
 | .bl a,.int b=>(if a then 1 else 0)==b
 | .int a,.bl b=>a==(if b then 1 else 0)
 | .int a,.int b=>a==b
 | .str a,.str b=>a==b
 | _,_=>false
theorem Pp{A:Around}{s:Shared}{y x:V}{u v:Value}(ry:RelV y u)(rx:RelV x v)(fy:YI y=true)(fx:YI x=true):SeqAt.EqAt A s u v (eqV y x):=by
 cases y with
 | non=>
  cases ry;cases x with
  | non=>cases rx;exact SeqAt.EqAt.same _
  | bl b=>cases rx;exact SeqAt.EqAt.none_bool b
  | int b=>obtain⟨t,rfl⟩:=rx;exact SeqAt.EqAt.none_int b t
  | str b=>obtain⟨t,rfl⟩:=rx;exact SeqAt.EqAt.none_str b t
  | _=>exact absurd (show false=true from fx) Bool.false_ne_true
 | bl a=>
  cases ry;cases x with
  | non=>cases rx;exact SeqAt.EqAt.bool_none a
  | bl b=>cases rx;exact SeqAt.EqAt.bool_bool a b
  | int b=>obtain⟨t,rfl⟩:=rx;exact SeqAt.EqAt.bool_int a b t
  | str b=>obtain⟨t,rfl⟩:=rx;exact SeqAt.EqAt.bool_str a b t
  | _=>exact absurd (show false=true from fx) Bool.false_ne_true
 | int a=>
  obtain⟨G,rfl⟩:=ry;cases x with
  | non=>cases rx;exact SeqAt.EqAt.int_none a G
  | bl b=>cases rx;exact SeqAt.EqAt.int_bool a G b
  | int b=>obtain⟨t,rfl⟩:=rx;exact SeqAt.EqAt.int_int a G b t
  | str b=>obtain⟨t,rfl⟩:=rx;exact SeqAt.EqAt.int_str a G b t
  | _=>exact absurd (show false=true from fx) Bool.false_ne_true
 | str a=>
  obtain⟨G,rfl⟩:=ry;cases x with
  | non=>cases rx;exact SeqAt.EqAt.str_none a G
  | bl b=>cases rx;exact SeqAt.EqAt.str_bool a G b
  | int b=>obtain⟨t,rfl⟩:=rx;exact SeqAt.EqAt.str_int a G b t
  | str b=>obtain⟨t,rfl⟩:=rx;exact SeqAt.EqAt.str_str a G b t
  | _=>exact absurd (show false=true from fx) Bool.false_ne_true
 | _=>exact absurd (show false=true from fy) Bool.false_ne_true
def eqU(x:V)(u:Value):Bool:=match u with
 | .none=>eqV .non x
 | .bool b=>eqV (.bl b) x
 | .int i _=>eqV (.int i) x
 | .str z _=>eqV (.str z) x
 | _=>false
theorem Nh{x y:V}{u:Value}(r:RelV y u)(f:YI y=true):eqU x u=eqV y x:=by
 cases y with
 | non=>cases r;rfl
 | bl b=>cases r;rfl
 | int i=>obtain⟨t,rfl⟩:=r;rfl
 | str z=>obtain⟨t,rfl⟩:=r;rfl
 | _=>exact absurd (show false=true from f) Bool.false_ne_true
theorem XY{x:V}:∀{xs:List V}{us:List Value},Vals xs us->xs.all YI=true->us.any (eqU x)=xs.any λy=>eqV y x
 | _,_,.nil,_=>rfl
 | y::xs,u::us,.cons r t,f=>by
  rw [List.all_cons,Bool.and_eq_true]at f;rw [List.any_cons,List.any_cons,Nh r f.1,XY t f.2]
theorem U6{A:Around}{s:Shared}{x:V}{v:Value}(rx:RelV x v)(fx:YI x=true):∀{xs:List V}{us:List Value},Vals xs us->xs.all YI=true->∀u∈us,SeqAt.EqAt A s u v (eqU x u)
 | _,_,.nil,_=>λu hu=>by cases hu
 | y::xs,u::us,.cons r t,f=>λG hu=>by
  rw [List.all_cons,Bool.and_eq_true]at f;rcases List.mem_cons.mp hu with rfl | hu
  .rw [Nh r f.1];exact Pp r rx f.1 fx
  .exact U6 rx fx t f.2 G hu
def inV(x:V)(xs:List V):Bool:=xs.any λy=>eqV y x
def rIn(K:Fg)(neg:Bool):R2:=λx y H Q=>∃p xs,y=.ref p/\(SqL K H p xs\/SqT K H p xs)/\YI x=true/\xs.all YI=true/\Q (.bl (if neg then !inV x xs else inV x xs)) H
theorem Wb:OpR X (compareOp .NotIn) (rIn X.K true):=by
 intro pins s σ H x y v u Q I J M h;obtain⟨p,xs,rfl,hq,L,fs,q⟩:=h;cases M;rcases hq with hq | hq
 .obtain⟨its,r,pl,U⟩:=I.list hq;refine SeqAt.notIn_listAt (eqU x) pl.isList (λw G=>U6 J L r fs w (by simpa using G)) ⟨.bl _,H,I,rfl,?_⟩;rw [show its.toArray.any (eqU x)=its.any (eqU x)by simp,XY r fs];exact q
 .obtain⟨its,r,pl,U⟩:=I.tuple hq;refine SeqAt.notIn_tupleAt (eqU x) pl (λw G=>U6 J L r fs w (by simpa using G)) ⟨.bl _,H,I,rfl,?_⟩;rw [show its.toArray.any (eqU x)=its.any (eqU x)by simp,XY r fs];exact q
theorem Qm:QV X (.builtin "len") (λxs H Q=>∃p ys,xs=[.ref p]/\(SqL X.K H p ys\/SqT X.K H p ys)/\Q (.int ys.length) H):=by
 intro pins s σ H xs U Q I r h;obtain⟨p,ys,rfl,hq,q⟩:=h;obtain⟨u,rfl,L⟩:=Xh r;cases L;have Y:=UB;rcases hq with hq | hq
 .obtain⟨its,J,pl,M⟩:=I.list hq;have G:=J.length;exact Calls.call_len_list pl.isList (by simp only [List.size_toArray]<;>lia) ⟨.int ys.length,H,I.tok _,⟨s.toks+1,by rw [List.size_toArray,G]⟩,q⟩
 .obtain⟨its,J,pl,M⟩:=I.tuple hq;have G:=J.length;exact len_tuple pl (by simp only [List.size_toArray]<;>lia) ⟨.int ys.length,H,I.tok _,⟨s.toks+1,by rw [List.size_toArray,G]⟩,q⟩
theorem Z9:QV X (.type "list") (λxs H Q=>∃p ys,xs=[.ref p]/\(SqL X.K H p ys\/SqT X.K H p ys)/\∀l,H l=none->Q (.ref l) (upd H l (.lst ys))):=by
 intro pins s σ H xs us Q I r h;obtain⟨p,ys,rfl,hq,q⟩:=h;obtain⟨u,rfl,rx⟩:=Xh r;cases rx;have fin:∀(its:List Value),Vals ys its->ys.length<=sizeLine->∀(h':Heap)(G:Nat),(∀b o',s.heap.get? b=some o'->h'.get? b=some o')->
  h'.get? s.heap.objs.size=some { cls:=.type "list",dict:=none,data:=.seq its.toArray G,slots:=#[] }->EP X pins σ Q (33:) { s with heap:=h' }:=λits J L h' G kp e=>
  ⟨.ref s.heap.objs.size,_,I.laid (t':=s.toks) kp (5:) (show ObjOk X.prog X.w _ h' _ (.lst ys)from⟨L,its,G,J,e⟩),rfl,q _ (I.hok.fresh (5:))⟩
 rcases hq with hq | hq
 .obtain⟨its,J,pl,L⟩:=I.list hq;have M:=J.length;obtain⟨o,U,Y,n,Z⟩:=pl.isList;exact call_list_seq p (.inl rfl) U Y Z (λh' G kp e=>fin its J L h' G kp e) (by simp only [List.size_toArray]<;>lia)
 .obtain⟨its,J,pl,L⟩:=I.tuple hq;have M:=J.length;obtain⟨o,U,Y,n,Z⟩:=pl;exact call_list_seq p (.inr rfl) U Y Z (λh' G kp e=>fin its J L h' G kp e) (by simp only [List.size_toArray]<;>lia)
theorem QW:QV X (.type "tuple") (λxs H Q=>∃p ys,xs=[.ref p]/\((SqL X.K H p ys/\∀l,H l=none->Q (.ref l) (upd H l (.tup ys)))\/(SqT X.K H p ys/\Q (.ref p) H))):=by
 intro pins s σ H xs us Q I r h;obtain⟨p,ys,rfl,h⟩:=h;obtain⟨u,rfl,U⟩:=Xh r;cases U;rcases h with⟨G,q⟩ | ⟨G,q⟩
 .obtain⟨its,J,pl,L⟩:=I.list G;have Y:=J.length;refine call_tuple_list pl.isList (λh' kp=>?_) (by simp only [List.size_toArray]<;>lia);have M:Inv X pins σ H { s with heap:=h' }:=I.kept (t':=s.toks) kp;have Z:Inv X pins σ (upd H h'.objs.size (.tup ys)) { s with heap:=h'.push { cls:=.type "tuple",data:=.seq its.toArray } }:=
   M.laid (t':=s.toks) (λb o e=>Heap.get?_push_of_some _ e) (5:) (show ObjOk X.prog X.w _ _ _ (.tup ys)from⟨L,its,J,IsTup.new _ _⟩)
  exact⟨.ref h'.objs.size,_,Z,rfl,q _ (M.hok.fresh (5:))⟩
 .obtain⟨its,J,pl,L⟩:=I.tuple G;exact call_tuple_same pl ⟨.ref p,H,I,rfl,q⟩
def tyV(K:Fg)(T:String)(x:V)(H:Hp):Prop:=match x with
 | .str _=>T="str"
 | .int _=>T="int"
 | .ref p=>(T="list"/\ ∃xs,SqL K H p xs)\/(T="tuple"/\ ∃o,K.lookup p=some o/\o.cls=.type "tuple"/\ o.dict=none) \/
  (T="dict"/\ ((∃kvs,H p=some (.dK kvs))\/∃kvs,H p=some (.dT kvs)))\/(T="set"/\ ∃S n,H p=some (.set S n))
 | _=>False
theorem Ny{pins:List (8:)}{σ:St}{H:Hp}{s:Shared}{T:String}{x:V}{v:Value}(I:Inv X pins σ H s)(r:RelV x v)(ty:tyV X.K T x H):
 s.TypeIs v T/\∀a,v=.ref a->∃ob,s.heap.get? a=some ob/\ob.dict=none:=by
 cases x with
 | str z=>
  obtain⟨t,rfl⟩:=r;cases (show T="str" from ty);exact⟨typeIs_str s z t,λ_ e=>nomatch e⟩
 | int i=>
  obtain⟨t,rfl⟩:=r;cases (show T="int" from ty);exact⟨typeIs_int s i t,λ_ e=>nomatch e⟩
 | ref p=>
  cases r;rcases ty with⟨rfl,xs,M⟩ | ⟨rfl,o,G,U,J⟩ | ⟨rfl,G⟩ | ⟨rfl,S,n,G⟩
  .obtain⟨its,_,pl,_⟩:=I.list M;refine⟨pl.isList.typeIs,λa e=>?_⟩;cases e;obtain⟨o,n,e,c,J,_⟩:=pl;exact⟨o,e,J⟩
  .refine⟨⟨o,I.kIn p o G,U⟩,λa e=>?_⟩;cases e;exact⟨o,I.kIn _ o G,J⟩
  .have z:∃o,s.heap.get? p=some o/\o.ExactDict:=by
    rcases G with⟨kvs,G⟩ | ⟨kvs,G⟩
    .obtain⟨_,_,_,_,o,_,_,e,ex,_⟩:=I.hok p _ G;exact⟨o,e,ex⟩
    .obtain⟨_,_,_,_,o,_,_,e,ex,_⟩:=I.hok p _ G;exact⟨o,e,ex⟩
   obtain⟨o,e,ex⟩:=z;refine⟨⟨o,e,ex.1⟩,λa L=>?_⟩;cases L;exact⟨o,e,ex.2.1⟩
  .obtain⟨o,_,_,_,e,ex,_⟩:=I.hok p _ G;refine⟨⟨o,e,ex.1⟩,λa L=>?_⟩;cases L;exact⟨o,e,ex.2.1⟩
 | _=>exact False.elim ty
def S2(K:Fg)(T:String)(r:V->List V->Hp->VK->Prop)(to:TE):TE:=λσ H Q=>to σ H λx H1=>tyV K T x H1/\r x [] H1 Q
def tBM(K:Fg)(T:String)(r:V->List V->Hp->VK->Prop)(to:TE)(t:TA):TE:=λσ H Q=>to σ H λx H1=>tyV K T x H1/\t σ H1 λxs H2=>r x xs H2 Q
variable{o e:Expr}{es:List Expr}{to:TE}{t:TA}{name:Str}{apos cpos:Pos}{T id:String}{r:V->List V->Hp->VK->Prop}
theorem LY(pa:PlainAttrs T)(slot:Slot T name id)(hty:typeOf (.builtin id)=pure (.type "method_descriptor"))(hm:MtR X id r)(ho:PE X o to)
 (hbase:attributeBase o name X.env (eval o X.env)=eval o X.env:=by rfl) (hline:(apos.endLine==cpos.line)=true:=by rfl):PE X (.Call (.Attribute o name apos) [] [] cpos) (S2 X.K T r to):=by
 intro pins s σ H Q I h;refine wpAny_Call_method0_late hbase hline (thn (ho pins s σ H _ I h) λv L ⟨x,H1,G,J,ty,M⟩=>?_);obtain⟨h1,h2⟩:=Ny G J ty;exact⟨T,id,pa,slot,hty,h1,h2,Calls.callWith_builtin rfl (PySem.evalArgs_none (hm pins L σ H1 x [] v [] Q G J .nil M))⟩
theorem Yp(pa:PlainAttrs T)(slot:Slot T name id)(hty:typeOf (.builtin id)=pure (.type "method_descriptor"))(hm:MtR X id r)(ho:PE X o to)(ha:PA X (e::es) t)
 (hbase:attributeBase o name X.env (eval o X.env)=eval o X.env:=by rfl)
 (hfew:((backTo cpos (starEach (e::es) X.env)).all (λx=>!x.1)&&(backToKw cpos (keywordEach [] X.env)).all (λx=>x.1.isSome)
  &&decide ((e::es).length+([]:List Keyword).length+(if([]:List Keyword).isEmpty then 0 else 1)<30))=true:=by rfl)
 (hline:(apos.endLine==cpos.line)=true:=by rfl) (hs:starEach (e::es) X.env=(false,eval e X.env)::starEach es X.env:=by rfl) (hplain:(backTo cpos (starEach es X.env)).any (·.1)=false:=by rfl):
 PE X (.Call (.Attribute o name apos) (e::es) [] cpos) (tBM X.K T r to t):=by
 intro pins s σ H Q I h;refine wpAny_Call_method_late hbase hfew hline rfl (thn (ho pins s σ H _ I h) λv M ⟨x,H1,G,J,ty,U⟩=>?_);obtain⟨h1,h2⟩:=Ny G J ty;refine⟨T,id,pa,slot,hty,h1,h2,?_⟩;have L:=ha cpos pins M σ H1 _ G U;rw [hs]at L ⊢;refine Calls.callWith_builtin (by show(false||(backTo cpos (starEach es X.env)).any (·.1))=false;rw [hplain]<;>rfl) (Calls.evalArgs_plain ?_);exact thn L λY Z ⟨vs,H2,I2,r2,q2⟩=>hm pins Z σ H2 x vs v Y Q I2 J r2 q2
/-xs.append(e),list.index on a module's tuple .. are MtR facts of 06m-/
end
end L2
namespace L2
open PySem PySem.Spec PyProof.Rows
def MtM(X:Cx)(id:String)(r:V->List V->Hp->VK->Prop):Prop:=
 ∀(pins:List (8:))(s:Shared)(σ:St)(H:Hp)(x:V)(xs:List V)(v:Value)(us:List Value)(Q:VK),Inv X pins σ H s->RelV x v->Vals xs us->r x xs H Q->
  wpAny (4:) X.A (call (.builtin id) (v::us)) (EP X pins σ Q) X.xe s
theorem Vals.one:∀{x:V}{us:List Value},Vals [x] us->∃u,us=[u]/\RelV x u
 | _,_,.cons r .nil=>⟨_,rfl,r⟩
theorem Vals.two:∀{x y:V}{us:List Value},Vals [x,y] us->∃u v,us=[u,v]/\RelV x u/\RelV y v
 | _,_,_,.cons r (.cons q .nil)=>⟨_,_,rfl,r,q⟩
theorem Vals.zero:∀{us:List Value},Vals [] us->us=[]
 | _,.nil=>rfl
theorem Vals.dropLast{xs:List V}{us:List Value}(h:Vals xs us):Vals xs.dropLast us.dropLast:=by
 induction h with
 | nil=>exact .nil
 | cons r t G=>
  cases t with
  | nil=>exact .nil
  | cons q J=>exact .cons r G
theorem Vh{α:Type}(l:List α):l.eraseIdx (l.length-1)=l.dropLast:=by
 induction l with
 | nil=>rfl
 | cons a r G=>
  cases r with
  | nil=>rfl
  | cons b r=>
   have e:(a::b::r).length-1=((b::r).length-1)+1:=by
    have h1:(a::b::r).length=r.length+2:=rfl;have h2:(b::r).length=r.length+1:=rfl;lia
   rw [e,List.eraseIdx_cons_succ,G]
   all_goals rfl
section
variable{X:Cx}{pins:List (8:)}{σ:St}{H:Hp}{s:Shared}{l b:Addr}{xs ys zs:List V}
theorem Inv.lset{its its':List Value}{n:Nat}{f:Array Value->Array Value}{t':Nat}(I:Inv X pins σ H s)(hH:H l=some (.lst xs))
 (e:s.heap.get? l=some { cls:=.type "list",data:=.seq its.toArray n }) (hf:f its.toArray=its'.toArray) (hv:Vals ys its') (hz:ys.length<=sizeLine):
 Inv X pins σ (upd H l (.lst ys)) { s with heap:=s.heap.update l (Obj.mapSeq f),toks:=t' }:=by
 have q:=PySem.IsL.update e f;rw [hf]at q;refine I.write (x:=l) (e:=l) (by rw [hH];exact trivial) (.inl rfl) (λL u G J=>(Heap.get?_update_other s.heap (Obj.mapSeq f) (Ne.symm G)).trans J) ⟨_,q⟩ ?_;exact⟨hz,its',_,hv,q⟩
theorem Inv.lnew{its:List Value}{t':Nat}(I:Inv X pins σ H s)(hv:Vals ys its)(hz:ys.length<=sizeLine):
 Inv X pins σ (upd H s.heap.objs.size (.lst ys)) { s with heap:=s.heap.push { cls:=.type "list",data:=.seq its.toArray },toks:=t' }:=
 I.laid (λ_ _ q=>Heap.get?_push_of_some _ q) (5:) ⟨hz,its,0,hv,Heap.get?_push_size _ rfl⟩
theorem Inv.fresh(I:Inv X pins σ H s):H s.heap.objs.size=none:=I.hok.fresh (5:)
theorem Inv.lstM(I:Inv X pins σ H s)(hH:H l=some (.lst xs)):xs.length<=sizeLine/\∃(its:List Value)(n:Nat),Vals xs its/\xs.length=its.length/\s.heap.get? l=some { cls:=.type "list",data:=.seq its.toArray n }:=by
 obtain⟨z,its,n,r,e⟩:=I.hok l _ hH;exact⟨z,its,n,r,r.length,e⟩
end
section
variable{X:Cx}
def Gp:V->List V->Hp->VK->Prop:=λx vs H Q=>∃l xs y,x=.ref l/\vs=[y]/\H l=some (.lst xs)/\xs.length<sizeLine/\Q .non (upd H l (.lst (xs++[y])))
theorem QN:MtM X "list.append" Gp:=by
 intro pins s σ H x vs v U Q I J L h;obtain⟨l,xs,y,rfl,rfl,G,Y,q⟩:=h;cases J;obtain⟨u,rfl,M⟩:=L.one;obtain⟨z,its,n,r,Z,e⟩:=I.lstM G;refine call_meets F.slot_list_append ⟨_,e,rfl⟩ F.entry_list_append (F.args_list_append_2 _ _) (PySem.list_append l its.toArray n u (by rw [List.size_toArray];lia)) ⟨e,?_⟩;refine⟨.non,_,I.lset (its':=its++[u]) G e (22:) (r.append (.cons M .nil)) ?_,rfl,q⟩;rw [List.length_append,List.length_singleton];lia
def Ts:V->List V->Hp->VK->Prop:=λx vs H Q=>∃l xs y,x=.ref l/\vs=[]/\H l=some (.lst xs)/\xs[xs.length-1]?=some y/\Q y (upd H l (.lst xs.dropLast))
theorem Pn:MtM X "list.pop" Ts:=by
 intro pins s σ H x vs v us Q I M U h;obtain⟨l,xs,y,rfl,rfl,G,Y,q⟩:=h;cases M;have J:=U.zero;subst J;obtain⟨z,its,n,r,Z,e⟩:=I.lstM G;obtain⟨u,hu,ru⟩:=r.get Y;have L:its.toArray[its.toArray.size-1]?=some u:=by
  show its.toArray[its.length-1]?=some u;rw [<-Array.getElem?_toList,<-Z];exact hu
 refine call_meets F.slot_list_pop ⟨_,e,rfl⟩ F.entry_list_pop (F.args_list_pop_1 _) (MeetsSeq.list_pop_last l its.toArray n u L (by rw [List.size_toArray];lia)) ⟨e,?_⟩;refine⟨y,_,I.lset (its':=its.dropLast) G e ?_ r.dropLast ?_,ru,q⟩
 .show its.toArray.eraseIdxIfInBounds (its.toArray.size-1)=its.dropLast.toArray;rw [List.size_toArray,List.eraseIdxIfInBounds_toArray,Vh]
 .rw [List.length_dropLast];lia
def Me:V->List V->Hp->VK->Prop:=λx vs H Q=>∃l xs,x=.ref l/\vs=[]/\H l=some (.lst xs)/\Q .non (upd H l (.lst []))
theorem MA:MtM X "list.clear" Me:=by
 intro pins s σ H x vs v U Q I L M h;obtain⟨l,xs,rfl,rfl,G,q⟩:=h;cases L;have J:=M.zero;subst J;obtain⟨z,its,n,r,Y,e⟩:=I.lstM G;refine call_meets F.slot_list_clear ⟨_,e,rfl⟩ F.entry_list_clear (F.args_list_clear_1 _) (AutoSeq1.list_clear_list_0 l its.toArray n (by rw [List.size_toArray];lia)) ⟨e,?_⟩;exact⟨.non,_,I.lset (its':=[]) (ys:=[]) G e rfl .nil (Nat.zero_le _),rfl,q⟩
end
section
variable{prog:Program}{w:World}{A:Around}{E:Value->Shared->Prop}{s:Shared}
set_option maxRecDepth 100000 in
end
section
variable{X:Cx}
end
end L2
namespace Att
open PySem PySem.W PySem.Calls PyProof.Rows
theorem UO{P:Params}{h:Heap}:∀(ns:List Int)(vs:List Value),WellAll P h vs (ns.map WData.int)->IntsAre vs ns:=by
 intro ns
 induction ns with
 | nil=>
  intro vs w;rw [List.map_nil]at w;cases w;exact .nil
 | cons n ns G=>
  intro vs w;rw [List.map_cons]at w;cases w with
  | cons a b=>
   cases a;exact .cons _ _ (G _ b)
theorem GV{l:OpenLaw}{n:Nat}(hn:l.most=some n){P:Params}{h:Heap}{args:List WData}{vals:List Value}
 (hpre:l.row.toRowW.claim.pre args=true) (hwl:WellAll P h vals args):
 ∃a vs ns,vals=[Value.ref a]/\args=[WData.list (ns.map WData.int)]/\h.get? a=some { cls:=.type "list",data:=.seq vs.toArray }/\IntsAre vs ns/\ns.length<=n:=by
 have U:WShape.hasAll [] args [.list .int]=true:=(pre_splitW hpre).1;have Y:l.pre.holds [] { args:=args }=true:=(pre_splitW hpre).2;obtain⟨d,r,rfl,h1,h2⟩:=hasAllW_cons U;obtain rfl:=hasAllW_nil h2;obtain⟨xs,rfl,Z⟩:=hasW_list h1;obtain⟨ns,rfl⟩:=items_int Z;have L:ns.length<=n:=by
  unfold OpenLaw.pre at Y;have G:(WTm.not (.lt (.lit (.int (n:Int))) (.len (.arg 0)))).holds [] { args:=[.list (ns.map .int)] }=true:=by
   have G:=(holds_andW Y).1;rw [hn]at G;exact G
  have J:=condW_of G (w_not (w_lt w_lit (w_len_list (w_arg rfl))));rw [List.length_map]at J;refine Nat.le_of_not_lt λq=>?_;have q':(n:Int)<((ns.length:Nat):Int):=by lia
  first
   | (rw [decide_eq_true q']at J;exact absurd J (12:))
   | (simp at J;lia)
 cases hwl with
 | cons w1 w2=>
  cases w2;cases w1 with
  | list ho M=>exact⟨_,_,ns,rfl,rfl,ho,UO ns _ M,L⟩
theorem GY(l:OpenLaw)(args:List WData):l.row.toRowW.claim.post args (.bool true) args=true:=
 postW_of (r:=l.row.toRowW) (X:=(true==true))
  (show WShape.has [] (.bool true) .bool=true by first | rfl | decide | simp [WShape.has,WShape.arms,WShape.armsAll])
  (show(WTm.eq .res (.lit (.bool true))).value [] { args:=args,res:=some (.bool true),after:=args }=some (.bool (true==true))from w_eq_bool (w_res rfl) w_lit) rfl
theorem attach_call{l:OpenLaw}{n:Nat}{q:Program}{loose:List Str}{XP:(Str->Option Value)->Heap->Prop}{YP:World->Heap->Prop}{d:DefRec}
 (hn:l.most=some n) (hdf:d.params.defaults=[])
 (call:∀(w:World)(s₀ s₁:Shared)(mg mb:Str->Option Value)(fa:Addr)(o:Obj)(pm cd doc:Value)(a:Addr)(vs:List Value)(ns:List Int),Ground q loose [] XP w s₀ mg mb s₁.heap->YP w s₁.heap->
  s₁.heap.get? fa=some o->o.data=.func (docDef d.name d.params d.body d.scope pm cd doc)->s₁.heap.CodeRec cd d.name->mg d.name=some (.ref fa)->
  s₁.heap.get? a=some { cls:=.type "list",data:=.seq vs.toArray }->IntsAre vs ns->ns.length<=n->s₁.gens=#[]->
  codeAny (model l.prog w) callerA (.call (.ref fa) ⟨[.ref a],[]⟩) (λr s'=>r=.ok (.ret (.bool true))/\OldK s₁.heap s'.heap/\s'.os=s₁.os/\AllBare s'.gens) s₁):
 WalkO q loose XP YP l.row.toRowW d [] (λf vs=>PySem.call f vs):=by
 intro w s₀ s₁ mg mb G Y fa o pm cd doc dV kV ho hd Z hD aa hg ac ad as L ae af ab ag;obtain rfl:dV=.none:=Dflts.none hD hdf;obtain rfl:kV=.none:=Dflts.noKw hD;obtain⟨a,vs,ns,rfl,rfl,M,J,U⟩:=GV hn L ab;refine enter_call (codeAny_mono (call w s₀ s₁ mg mb fa o pm cd doc a vs ns G Y ho (fd_plain hd) Z aa M J U hg) λr s' hq=>?_);obtain⟨rfl,h2,h3,h4⟩:=hq;exact⟨.inl ⟨.bool true,.bool true,[],rfl,λ_=>rfl,.bool true,GY l _,λ_=>⟨List.Pairwise.nil,λ_ hm=>(nomatch hm)⟩⟩,h2,h3,h4⟩
section
variable{prog:Program}{w:World}{A:Around}{E:Value->Shared->Prop}{s:Shared}{K:Frag}
def Tp(h:Heap)(L d:Addr):List (8:):=(List.range h.objs.size).filterMap λa=>if a=L\/a=d then none else(h.get? a).map λo=>(a,o)
end
end Att
namespace L2
open PySem PySem.Spec PyProof.Rows
theorem JR:∀{vs:List Value}{ns:List Int},IntsAre vs ns->Vals (ns.map V.int) vs
 | _,_,.nil=>.nil
 | _,_,.cons n t h=>.cons ⟨t,rfl⟩ (JR h)
def P8(H:Hp):Prop:=∀b,H b=none\/∃o xs,H b=some (.frz o (.lst xs))
theorem LI{P:Program}{w:World}{K:Fg}{mg mb:Str->Option Value}{CX:CXT}{k:Nat}{fa a:Addr}{fd:FuncData}{x:Str}{sp:Sp}{s₁:Shared}{vs:List Value}{ns:List Int}
 (KX:K.In s₁.heap) (hns:s₁.heap.Ns mainGlobals mg) (hb:s₁.heap.Ns builtinsNs mb) (hbb:∀x:Str,x≠"__name__"->mb x=bootBuiltins x) (hlim:s₁.heap.NoLimit) (hg:s₁.gens=#[])
 (ha:s₁.heap.get? a=some { cls:=.type "list",data:=.seq vs.toArray }) (hi:IntsAre vs ns) (hl:ns.length<=sizeLine) (hr:Room k callerA)
 (F:∀base:Heap,K.In base->base.Ns mainGlobals mg->FnOk P w K mg base CX k fa fd [x] sp) (hbind:∀(s:Shared)(u:Value),BindsTo s fd ⟨[u],[]⟩ [(x,u)])
 (hsp:∀H:Hp,P8 H->SqL K H a (ns.map V.int)->sp [.ref a] H (λv _=>v=.bl true) λ_ _ _=>False)
 (hCX:∀H e s',CX [] H s₁ (λ_ _ _=>False) e s'->False):
 codeAny (model P w) callerA (.call (.ref fa) ⟨[.ref a],[]⟩) (λr s'=>r=.ok (.ret (.bool true))/\OldK s₁.heap s'.heap/\s'.os=s₁.os/\AllBare s'.gens) s₁:=by
 have rv:=JR hi;have aa:=hi.length;have L:∀H:Hp,P8 H->SqL K H a (ns.map V.int)->HOk P w H s₁.heap->(∀b,H b≠none->b=a)->(H a≠none->K.lookup a=none)->
  codeAny (model P w) callerA (.call (.ref fa) ⟨[.ref a],[]⟩) (λr s'=>r=.ok (.ret (.bool true))/\OldK s₁.heap s'.heap/\s'.os=s₁.os/\AllBare s'.gens) s₁:=by
  intro H hO hS Y hA hK;have G:∀{b:Addr}{o:Obj},s₁.heap.get? b=some o->H b=none->(XU s₁.heap H).get? b=some o:=λe n=>Mz e n;have ad:∀{b:Addr}{o:Obj}{es:Array DictEntry}{M:Nat},s₁.heap.get? b=some o->o.data=.dict es M->H b=none:=λ{b o es M} e d=>by
   cases q:H b with
   | none=>rfl
   | some u=>
    have e':b=a:=hA b (by rw [q];simp);subst e';rw [ha]at e;cases e;have d':Data.seq vs.toArray _=Data.dict es M:=d;cases d'
  have J:∀{b:Addr}{m:Str->Option Value},s₁.heap.Ns b m->(XU s₁.heap H).Ns b m:=λ{b m} ⟨o,es,M,e,d,r⟩=>⟨o,es,M,G e (ad e d),d,r⟩;have Z:K.In (XU s₁.heap H):=λb o e=>G (KX b o e) (by
   cases q:H b with
   | none=>rfl
   | some u=>
    have e':b=a:=hA b (by rw [q];simp);subst e';rw [hK (by rw [q];simp)]at e;cases e)
  have hM:Mod K mg (XU s₁.heap H):=⟨Z,J hns,⟨mb,J hb,hbb⟩,let⟨mc,h1,h2⟩:=hlim;⟨mc,J h1,h2⟩⟩;have e0:Env0 P w K mg (XU s₁.heap H) callerA [] s₁ H:=⟨rfl,hM,λb o e=>On e,Nat.le_of_eq (G5 _ _),trivial,λb hb=>absurd (show b∈([]:List Addr)from hb) (22:),Y,.of_eq hg⟩;refine codeAny_mono ((F _ Z (J hns)).run callerA [] s₁ H ⟨[.ref a],[]⟩ [.ref a] [.ref a] _ _ hr e0 (hbind s₁ (.ref a)) (.cons rfl .nil) (hsp H hO hS)) λr s' h=>?_;cases r with
  | error e=>exact(hCX H e s' h).elim
  | ok fl=>
   cases fl with
   | next=>exact False.elim h
   | brk=>exact False.elim h
   | cont=>exact False.elim h
   | ret u=>
    obtain⟨v,H',os,ab,un,ac,r',q⟩:=h;have q':v=.bl true:=q;subst q';obtain rfl:u=Value.bool true:=r';refine⟨rfl,OldK.of_keep λb o e=>?_,os,ab⟩;cases q:H b with
    | none=>exact un.keep b o e q (by intro z;exact absurd (show b∈([]:List Addr)from z) (22:)) (22:)
    | some u=>
     rcases hO b with z | ⟨ob,xs,z⟩
     .rw [q]at z;cases z
     .have z2:=un.frzs b ob _ z;obtain⟨e1,_⟩:=Y b _ z;obtain⟨e2,_⟩:=ac b _ z2;rw [e]at e1;cases e1;exact e2
 cases hk:K.lookup a with
 | some o=>
  have e:=KX a o hk;rw [ha]at e;cases e;refine L (λ_=>none) (λ_=>.inl rfl) (.inr ⟨_,vs.toArray,_,hk,rfl,rfl,rfl,by rw [List.size_toArray,aa];exact hl,by simpa using rv⟩) (λb u z=>by have U:(none:Option HO)=some u:=z;cases U) (λb z=>absurd rfl z) λz=>absurd rfl z
 | none=>
  refine L (λb=>if b=a then some (.frz { cls:=.type "list",data:=.seq vs.toArray } (.lst (ns.map V.int)))else none) (λb=>?_) (.inl (.inr ⟨{ cls:=.type "list",data:=.seq vs.toArray },if_pos rfl⟩)) (λb u z=>?_) (λb z=>?_) λ_=>hk
  .by_cases hb:b=a
   .exact .inr ⟨_,_,if_pos hb⟩
   .exact .inl (if_neg hb)
  .by_cases hb:b=a
   .have U:=(if_pos hb).symm.trans z;cases U;subst hb;exact⟨ha,by rw [List.length_map];exact hl,vs,_,rv,ha⟩
   .have U:=(if_neg hb).symm.trans z;cases U
  .by_cases hb:b=a
   .exact hb
   .exact absurd (if_neg hb) z
end L2
namespace L2
open PySem PySem.Spec PyProof.Rows
abbrev KOf{K:Fg}{h:Heap}(_:K.In h):Fg:=K
theorem walk_of{l:PySem.W.OpenLaw}{n k:Nat}{q:Program}{loose:List Str}{XP:(Str->Option Value)->Heap->Prop}{YP:World->Heap->Prop}{d:DefRec}{K:Params->Fg}{CX:World->CXT}{sp:World->Sp}{x:Str}
 (hn:l.most=some n) (hn2:n<=sizeLine) (hdf:d.params.defaults=[]) (hr:Room k callerA)
 (hY:∀(w:World)(h:Heap),YP w h->(K w.params).In h)
 (F:∀(w:World)(mg:Str->Option Value)(fa:Addr)(h:Heap),(K w.params).In h->h.Ns mainGlobals mg->mg d.name=some (.ref fa)->
  ∃fd:FuncData,(∀(s:Shared)(u:Value),BindsTo s fd ⟨[u],[]⟩ [(x,u)])/\
   ∀base:Heap,(K w.params).In base->base.Ns mainGlobals mg->FnOk l.prog w (K w.params) mg base (CX w) k fa fd [x] (sp w))
 (hsp:∀(w:World)(H:Hp)(a:Addr)(ns:List Int),ns.length<=n->P8 H->SqL (K w.params) H a (ns.map V.int)->sp w [.ref a] H (λv _=>v=.bl true) λ_ _ _=>False)
 (hCX:∀(w:World)(H:Hp)(s:Shared)(e:Value)(s':Shared),CX w [] H s (λ_ _ _=>False) e s'->False):
 PySem.W.WalkO q loose XP YP l.row.toRowW d [] (λf vs=>PySem.call f vs):=by
 refine Att.attach_call hn hdf λw ad aa mg mb fa o pm cd ab a vs ns G Y ho hd ac U M L J hg=>?_;have Z:=hY w _ Y;obtain⟨fd,hb,hF⟩:=F w mg fa _ Z G.T.g U;exact LI Z G.T.g G.T.b G.T.builtins G.T.nolimit hg M L (Nat.le_trans J hn2) hr hF hb (λH hO hS=>hsp w H a ns J hO hS) λH e s'=>hCX w H aa e s'
end L2
/-THE LAST THEOREM (shape;LID,My.*are yours):
 My.Adr:a structure of the addresses that your layer names (classes,functions);My.Txt K t:a structure (Prop) of the equations over K;
 My.txt_mk:{K} {implicit addresses ..} (e1:nsIn K mainGlobals "law"=some (some (.ref f))) (e2:K.lookup f=some ⟨oc,od,.func (fnOf "law" "law" params body scope dV kV doc pm an cdv ct),sl⟩) (e3:codeIn K cdv "law"=true) .. : ∃t,My.Txt K t
set_option maxRecDepth 100000 in
set_option maxHeartbeats 0 in
theorem PySem.Challenge.cw_LID_holds : PySem.Challenge.rw_LID.Holds := by
 w_on;o_law;k_head;(case hw=>w_witness2)
 k_fill
 refine L2.walk_of (l:=PySem.Challenge.rw_LID) (n:=63) (k:=40) (x:="script") (CX:=λw=>..) (sp:=λ_=>My.sp_law) rfl (12:) rfl ⟨rfl,by decide,by decide⟩ (λw h Y=>PySem.W.kIn_of Y) ?F ?S ?C
 case F=>
  intro w mg fa h KX G hmg;have T:∃t,My.Txt (L2.KOf KX) t:=by
   dsimp only [L2.KOf]                          --K must stand as «<heap const>w.params» for k_is
   refine' My.txt_mk ?e1 ?e2 ?e3 ..
   (case e1=>PySem.W.k_is)                    --in the order:a name->its address->its object->its parts
   (case e2=>PySem.W.k_is)
   ..
  obtain⟨t,T⟩:=T;have e0:=hmg.symm.trans (PySem.W.mg_of KX G T.law);cases e0                                       --fa is the law's own address
  exact⟨_,λs u=>.of_eq rfl,λbase kb nb=>My.law_fn T kb nb⟩     --if «.of_eq rfl» comes too early:refine' ⟨_,?b,λbase kb nb=>My.law_fn T kb nb⟩;exact λs u=>.of_eq rfl
 case S=>exact λw H a ns hl hO hS=>..
 case C=>exact ..
(the tactic k_is has no namespace:write k_is)-/
namespace L2
open PySem PySem.Spec PyProof.Rows
def inClass(s:Stmt)(j:Nat):Stmt:=match s with
 | .ClassDef _ _ _ body _ _ _ _ _ _ _=>body.getD j (.Pass ⟨0,0,0,0⟩)
 | _=>.Pass ⟨0,0,0,0⟩
def defArgs(s:Stmt):Arguments:=match s with
 | .FunctionDef _ a _ _ _ _ _ _ _ _=>a
 | _=>{ posonlyargs:=[],args:=[],vararg:=none,kwonlyargs:=[],kw_defaults:=[],kwarg:=none,defaults:=[] }
def defBody(s:Stmt):List Stmt:=match s with
 | .FunctionDef _ _ b _ _ _ _ _ _ _=>b
 | _=>[]
def defScope(s:Stmt):Scope:=match s with
 | .FunctionDef _ _ _ _ _ _ sc _ _ _=>sc
 | _=>{ kind:=.function,names:=[],isGenerator:=false,isCoroutine:=false }
abbrev CX0:CXT:=λ_ _ _ _ _ _=>False
abbrev E0:XK:=λ_ _ _=>False
theorem Wi{X:Cx}:YN CX0 X E0:=λ_ _ _ _ _ _ _ h=>h.elim
structure Fun(K:Fg)(x qual:Str)(st:Stmt)(f:Addr)(fd:FuncData):Prop where
 ex:∃(oc:Value)(od:Option Addr)(kV doc pm:Value)(an:Option Addr)(cdv ct:Value)(osl:Array (Option Value)),
  fd=PySem.W.fnOf x qual (defArgs st) (defBody st) (defScope st) .none kV doc pm an cdv ct/\K.lookup f=some ⟨oc,od,.func fd,osl⟩/\PySem.W.codeIn K cdv qual=true
 kp:PySem.W.keepIn K (.ref f)=true
section
variable{P:Program}{w:World}{K:Fg}{mg:Str->Option Value}{base:Heap}
theorem Fun.ok{x qual:Str}{st:Stmt}{f:Addr}{fd:FuncData}{N ps:List Str}{k:Nat}{sp:Sp}(F:Fun K x qual st f fd)(S:FnScope N ps (defScope st))(len:∀vs H Q E,sp vs H Q E->vs.length=ps.length)
 (hbody:∀(cdv:Value)(A:Around)(outer:List Env)(s:Shared)(H:Hp)(vs:List V)(Q:VK)(E:XK),Room k (A.deeper (envOfC qual (defScope st) s.heap.objs.size f cdv))->sp vs H Q E->
  ∃t,PSs (W2 CX0 P w K mg base N qual (defScope st) f cdv A outer s H E).nox (defBody st) t/\t { nx:=λ_ H'=>Q .non H',rt:=Q } (start N vs) H):FnOk P w K mg base CX0 (k+1) f fd ps sp:=by
 obtain⟨Z,od,kV,U,pm,an,cdv,ct,Y,rfl,L,G⟩:=F.ex;refine ON L G S len λA outer s H vs Q E M J=>?_;obtain⟨t,h,q⟩:=hbody cdv A outer s H vs Q E M J;exact⟨t,h.nox,q⟩
theorem Fun.binds{x qual:Str}{st:Stmt}{f:Addr}{fd:FuncData}{ps:List Str}(F:Fun K x qual st f fd)
 (h:∀(kV doc pm:Value)(an:Option Addr)(cdv ct:Value)(us:List Value),us.length=ps.length->bindArgs (PySem.W.fnOf x qual (defArgs st) (defBody st) (defScope st) .none kV doc pm an cdv ct) ⟨us,[]⟩=pure (ps.zip us)):Binds K fd ps []:=by
 obtain⟨L,M,kV,doc,pm,an,cdv,ct,G,rfl,U,J⟩:=F.ex;exact .all (h kV doc pm an cdv ct)
theorem QT{x qual:Str}{st:Stmt}{f:Addr}{oc:Value}{od an:Option Addr}{osl:Array (Option Value)}{kV doc pm cdv ct:Value}(l:K.lookup f=some ⟨oc,od,.func (PySem.W.fnOf x qual (defArgs st) (defBody st) (defScope st) .none kV doc pm an cdv ct),osl⟩)
 (c:PySem.W.codeIn K cdv qual=true) (k:PySem.W.keepIn K (.ref f)=true):Fun K x qual st f (PySem.W.fnOf x qual (defArgs st) (defBody st) (defScope st) .none kV doc pm an cdv ct):=⟨⟨oc,od,kV,doc,pm,an,cdv,ct,osl,rfl,l,c⟩,k⟩
end
theorem J1{A:Around}{k:Nat}(hr:Room k A):A.units+1<cLine:=Nat.lt_of_le_of_lt (Nat.add_le_add_left (by decide:1<=64) _) hr.units
section
variable{X:Cx}
theorem pv(i:Nat){x:Str}{pos:Pos}(hN:X.N[i]?=some x:=by rfl)(hv:Vis X.env.scope x:=by first | exact Or.inl rfl | exact Or.inr (9:) | exact Or.inr (Or.inr rfl))(hd:(42:)=false:=by decide)
 (hcd:(x==("__classdict__":Str))=false:=by decide):PE X (.Name x pos) (Zo i):=LP hN hv hd hcd
end
theorem Zc{A B:Prop}(h:B):if false=true then A else B:=by
 rw [if_neg Bool.false_ne_true];exact h
theorem QU{A B:Prop}(h:A):if true=true then A else B:=by
 rw [if_pos rfl];exact h
theorem UP{c A B:Prop} [Decidable c] (h1:c->A) (h2:¬c->B):if c then A else B:=by
 by_cases h:c
 .rw [if_pos h];exact h1 h
 .rw [if_neg h];exact h2 h
theorem Yh{c A B:Prop} [Decidable c] (hc:c) (h:B):if(!decide c)=true then A else B:=by
 rw [decide_eq_true hc];exact Zc h
def Same(H H':Hp):Prop:=∀b o,H b=some o->H' b=some o
theorem Same.refl(H:Hp):Same H H:=λ_ _ h=>h
theorem Same.trans{H H1 H2:Hp}(a:Same H H1)(b:Same H1 H2):Same H H2:=λc o h=>b c o (a c o h)
theorem Same.free{H H':Hp}(e:Same H H'){l:Addr}(h:H' l=Option.none):H l=Option.none:=by
 cases q:H l with
 | none=>rfl
 | some o=>
  rw [e l o q]at h;cases h
theorem Same.seq{K:Fg}{H H':Hp}{a:Addr}{xs:List V}(e:Same H H')(h:SqL K H a xs):SqL K H' a xs:=by
 rcases h with(h | ⟨o,h⟩) | h
 .exact .inl (.inl (e _ _ h))
 .exact .inl (.inr ⟨o,e _ _ h⟩)
 .exact .inr h
end L2
set_option maxHeartbeats 4000000
namespace L2
open PySem PySem.Spec PyProof.Rows
section
variable{X:Cx}
theorem ZR:QV X (.builtin "isinstance") (λxs H Q=>∃x T t b,xs=[x,.ty T]/\TyOf X.K H x t/\PySem.W.kitOne X.K t (.type T)=some b/\Q (.bl b) H):=by
 intro pins s σ H xs L Q I r h;obtain⟨x,T,t,b,rfl,ty,e,q⟩:=h;obtain⟨u,c,rfl,G,J⟩:=V0 r;cases (show c=Value.type T from J);exact GK I G ty e λtk=>⟨.bl b,H,I.tok tk,rfl,q⟩
end
section
variable{X:Cx}
end
mutual
inductive RdV(K:Fg)(H:Hp):V->PyData->Prop where
 | non:RdV K H .non .none
 | bl (b:Bool):RdV K H (.bl b) (.bool b)
 | int (i:Int):RdV K H (.int i) (.int i)
 | str (x:Str):RdV K H (.str x) (.str x)
 | lst {a:Addr} {xs:List V} {ds:List PyData}:SqL K H a xs->RdAll K H xs ds->RdV K H (.ref a) (.list ds)
 | tup {a:Addr} {xs:List V} {ds:List PyData}:SqT K H a xs->RdAll K H xs ds->RdV K H (.ref a) (.tuple ds)
inductive RdAll(K:Fg)(H:Hp):List V->List PyData->Prop where
 | nil:RdAll K H [] []
 | cons {v:V} {vs:List V} {d:PyData} {ds:List PyData}:RdV K H v d->RdAll K H vs ds->RdAll K H (v::vs) (d::ds)
end
section
variable{X:Cx}{pins:List (8:)}{σ:St}{H:Hp}{s:Shared}
mutual
theorem RdV.reads(I:Inv X pins σ H s):∀{v:V}{d:PyData}{u:Value},RdV X.K H v d->RelV v u->∃as,Reads s.heap u d as
 | _,_,u,.non,r=>by cases (show u=Value.none from r);exact⟨_,.none⟩
 | _,_,u,.bl b,r=>by cases (show u=Value.bool b from r);exact⟨_,.bool b⟩
 | _,_,u,.int i,r=>by obtain⟨t,e⟩:=(show ∃t,u=Value.int i t from r);cases e;exact⟨_,.int i t⟩
 | _,_,u,.str x,r=>by obtain⟨t,e⟩:=(show ∃t,u=Value.str x t from r);cases e;exact⟨_,.str x t⟩
 | _,_,u,@RdV.lst _ _ a xs ds G J,r=>by
  cases (show u=Value.ref a from r);obtain⟨its,L,⟨o,n,e,c,_,M⟩,_⟩:=I.list G;obtain⟨as,q⟩:=RdAll.reads I J L;exact⟨_,.list e c M (by simpa using q)⟩
 | _,_,u,@RdV.tup _ _ a xs ds G J,r=>by
  cases (show u=Value.ref a from r);obtain⟨its,L,⟨o,e,c,n,M⟩,_⟩:=I.tuple G;obtain⟨as,q⟩:=RdAll.reads I J L;exact⟨_,.tuple e c M (by simpa using q)⟩
theorem RdAll.reads(I:Inv X pins σ H s):∀{vs:List V}{ds:List PyData}{us:List Value},RdAll X.K H vs ds->Vals vs us->∃as,ReadsAll s.heap us ds as
 | _,_,_,.nil,r=>by cases r;exact⟨_,.nil⟩
 | _,_,_,.cons h t,r=>by
  cases r with
  | cons G J=>
   obtain⟨as,q⟩:=RdV.reads I h G;obtain⟨bs,L⟩:=RdAll.reads I t J;exact⟨_,.cons q L⟩
end
end
section
variable{X:Cx}
def Pe(K:Fg)(A:Around)(neg:Bool):R2:=λx y H Q=>∃d e:PyData,RdV K H x d/\RdV K H y e/\d.canLay0=true/\e.canLay0=true/\A.units+min d.depth e.depth<cLine/\Q (.bl (if neg then !PyData.eqv d e else PyData.eqv d e)) H
theorem Jf:OpR X (compareOp .Eq) (Pe X.K X.A false):=by
 intro pins s σ H x y v u Q I G J h;obtain⟨d,e,L,M,cd,U,Y,q⟩:=h;obtain⟨as,Z⟩:=L.reads I G;obtain⟨bs,q2⟩:=M.reads I J;exact SeqAt.compareEq_reads Z q2 cd U Y ⟨.bl _,H,I,rfl,q⟩
theorem Jv:OpR X (compareOp .NotEq) (Pe X.K X.A true):=by
 intro pins s σ H x y v u Q I G J h;obtain⟨d,e,L,M,cd,U,Y,q⟩:=h;obtain⟨as,Z⟩:=L.reads I G;obtain⟨bs,q2⟩:=M.reads I J;exact SeqAt.compareNe_reads Z q2 cd U Y ⟨.bl _,H,I,rfl,q⟩
end
mutual
theorem ZA:∀d:PyData,d.canLay0=true->PyData.eqv d d=true
 | .none,_=>by simp [PyData.eqv]
 | .bool _,_=>by simp [PyData.eqv]
 | .int _,_=>by simp [PyData.eqv]
 | .str _,_=>by simp [PyData.eqv]
 | .list xs,h=>by
  simp only [PyData.eqv];exact Yw xs (by simpa [PyData.canLay0]using h)
 | .tuple xs,h=>by
  simp only [PyData.eqv];exact Yw xs (by simpa [PyData.canLay0]using h)
 | .dict _,h=>by simp [PyData.canLay0]at h
theorem Yw:∀ds:List PyData,PyData.canLayAll0 ds=true->PyData.eqvAll ds ds=true
 | [],_=>by simp [PyData.eqvAll]
 | d::ds,h=>by
  simp only [PyData.canLayAll0,Bool.and_eq_true]at h;simp only [PyData.eqvAll,Bool.and_eq_true];exact⟨ZA d h.1,Yw ds h.2⟩
end
end L2
namespace L2
open PySem PySem.Spec PyProof.Rows
structure Fn(P:Program)(w:World)(K:Fg)(mg:Str->Option Value)(base:Heap)(k:Nat)(x:Str)(ps:List Str)(sp:Sp):Prop where
 ex:∃(f:Addr)(fd:FuncData),FnOk P w K mg base CX0 k f fd ps sp/\Binds K fd ps []/\PySem.W.keepIn K (.ref f)=true/\mg x=some (.ref f)
theorem Qp{X:Cx}{k k':Nat}{x:Str}{ps:List Str}{sp:Sp}{p pos:Pos}{e:Expr}{es:List Expr}{t:TA}(F:Fn X.prog X.w X.K X.mg X.base k x ps sp)(hr:Room k' X.A)(ha:PA X (e::es) t)(hk:k<=k':=by decide)(hg:Gl X x:=by rfl)
 (hdb:(42:)=false:=by decide) (he:starEach (e::es) X.env=(false,eval e X.env)::starEach es X.env:=by rfl) (hpl:(52:).any (·.1)=false:=by rfl):
 PE X (.Call (.Name x p) (e::es) [] pos) (J9 sp [] E0 t):=by
 obtain⟨f,fd,h1,h2,G,J⟩:=F.ex;exact Ox h1 (hr.mono hk) hg J G h2 .nil Wi ha hdb he hpl
theorem JJ{c A B:Prop} [Decidable c] (hc:c) (h:A):if decide c=true then A else B:=by
 rw [decide_eq_true hc];exact QU h
theorem JO{c A B:Prop} [Decidable c] (hc:¬c) (h:B):if decide c=true then A else B:=by
 rw [decide_eq_false hc];exact Zc h
theorem G1{b:Bool}{A B:Prop}(h1:b=true->A)(h2:b=false->B):if b=true then A else B:=by
 cases b with
 | true=>exact QU (h1 rfl)
 | false=>exact Zc (h2 rfl)
theorem Qe{H:Hp}{p:Addr}(h:H p=Option.none)(o:HO):Same H (upd H p o):=λb u q=>by rw [Qh (Qi q h)];exact q
def S(l:List Nat):Str:=⟨l.toArray⟩
theorem Mb(l:List Nat):(S l).cps.toList=l:=by simp [S]
theorem GI(l:List Nat):(S l).length=l.length:=by simp [S,Str.length]
theorem Rs{a b:List Nat}(h:S a=S b):a=b:=by
 have:=congrArg (λz:Str=>z.cps.toList) h
 simpa [Mb]using this
theorem Sa(a b:List Nat):S a++S b=S (a++b):=by
 show Str.append (S a) (S b)=S (a++b);simp [Str.append,S]
end L2
namespace L2
open PySem PySem.Spec PyProof.Rows
def SW(t:TS):TS:=λD σ H=>∃R:St->Hp->Prop,t { D with nx:=R } σ H/\∀σ' H',R σ' H'->D.nx σ' H'
theorem Uk{X:Cx}{st:Stmt}{t:TS}(h:PS X st t):PS X st (SW t):=by
 intro pins s σ H D I G;obtain⟨R,h1,h2⟩:=G;refine thn (h pins s σ H { D with nx:=R } I h1) λf M q=>?_;cases f with
 | next=>
  obtain⟨J,H',L,q⟩:=q;exact⟨J,H',L,h2 _ _ q⟩
 | brk=>exact q
 | cont=>exact q
 | ret v=>exact q
theorem YO:∀xs:List Str,PyData.depthAll (xs.map PyData.str)=0
 | []=>by simp [PyData.depthAll]
 | x::r=>by simp [PyData.depthAll,PyData.depth,YO r]
end L2
namespace L2
open PySem PySem.Spec PyProof.Rows
structure DefAt(K:Fg)(x:Str)(st:Stmt):Prop where
 ex:∃(f:Addr)(oc:Value)(od:Option Addr)(kV doc pm:Value)(an:Option Addr)(cdv ct:Value)(osl:Array (Option Value)),
  PySem.W.nsIn K mainGlobals x=some (some (.ref f))/\K.lookup f=some ⟨oc,od,.func (PySem.W.fnOf x x (defArgs st) (defBody st) (defScope st) .none kV doc pm an cdv ct),osl⟩/\PySem.W.codeIn K cdv x=true/\PySem.W.keepIn K (.ref f)=true
theorem DefAt.mk'{K:Fg}{x:Str}{st:Stmt}{f:Addr}{oc:Value}{od:Option Addr}{kV doc pm:Value}{an:Option Addr}{cdv ct:Value}{osl:Array (Option Value)}
 (a:PySem.W.nsIn K mainGlobals x=some (some (.ref f))) (l:K.lookup f=some ⟨oc,od,.func (PySem.W.fnOf x x (defArgs st) (defBody st) (defScope st) .none kV doc pm an cdv ct),osl⟩) (c:PySem.W.codeIn K cdv x=true) (k:PySem.W.keepIn K (.ref f)=true):DefAt K x st:=
 ⟨f,oc,od,kV,doc,pm,an,cdv,ct,osl,a,l,c,k⟩
theorem DefAt.fn{P:Program}{w:World}{K:Fg}{mg:Str->Option Value}{base h:Heap}{k:Nat}{x:Str}{st:Stmt}{ps:List Str}{sp:Sp}(D:DefAt K x st)(X:K.In h)(G:h.Ns mainGlobals mg)
 (ok:∀(f:Addr)(fd:FuncData),Fun K x x st f fd->FnOk P w K mg base CX0 k f fd ps sp)
 (hb:∀(kV doc pm:Value)(an:Option Addr)(cdv ct:Value)(us:List Value),us.length=ps.length->bindArgs (PySem.W.fnOf x x (defArgs st) (defBody st) (defScope st) .none kV doc pm an cdv ct) ⟨us,[]⟩=pure (ps.zip us)):Fn P w K mg base k x ps sp:=by
 obtain⟨f,L,M,kV,doc,pm,an,cdv,ct,J,a,l,c,kp⟩:=D.ex;have F:=QT (st:=st) l c kp;exact⟨f,_,ok f _ F,F.binds hb,kp,PySem.W.mg_of X G a⟩
end L2
namespace L2
open PySem PySem.Spec PyProof.Rows
section
variable{X:Cx}
def SN(K:Fg):R2:=λx y H Q=>∃a b xs ys,x=.ref a/\y=.ref b/\SqT K H a xs/\SqT K H b ys/\xs.length+ys.length<=sizeLine/\
 ∀p H',Same H H'->SqT K H' p (xs++ys)->Q (.ref p) H'
theorem Xx:OpR X (binaryOp .Add) (SN X.K):=by
 intro pins s σ H x y v u Q I Z ry h;obtain⟨a,b,xs,ys,e1,e2,M,U,hz,q⟩:=h
 by_cases hx:xs=[]
 .subst e1;subst e2;subst hx;cases (show v=Value.ref a from Z);cases (show u=Value.ref b from ry);obtain⟨its,r1,p1,_⟩:=I.tuple M;obtain⟨Y,r2,p2,_⟩:=I.tuple U;cases r1;obtain⟨⟨cls,dd,ad,sl⟩,ho,hc,n,hd⟩:=id p1;obtain⟨⟨ae,aa,ac,ab⟩,G,J,n2,L⟩:=id p2;simp only at hc hd J L;subst hc hd J L;exact concat_meets ⟨_,ho,rfl⟩ ⟨_,G,rfl⟩ noFill_tuple_add seq_tuple_add PySem.F.slot_tuple_add PySem.F.entry_tuple_add (PySem.F.args_tuple_add_2 _ _)
   (tuple_addW0 a b _ Y.toArray n n2 dd aa sl ab rfl) ⟨ho,G,⟨.ref b,H,I,rfl,q b H (Same.refl H) (by simpa using U)⟩⟩
 .refine Os pins s σ H x y v u Q I Z ry ⟨a,b,xs,ys,e1,e2,M,U,hx,hz,λhy=>?_,λhy p hp=>?_⟩
  .subst hy;exact q a H (Same.refl H) (by simpa using M)
  .exact q p _ (Qe hp _) (SqT.of Qb)
theorem Same.seqT{K:Fg}{H H':Hp}{a:Addr}{xs:List V}(e:Same H H')(h:SqT K H a xs):SqT K H' a xs:=by
 rcases h with(h | ⟨o,h⟩) | h
 .exact .inl (.inl (e _ _ h))
 .exact .inl (.inr ⟨o,e _ _ h⟩)
 .exact .inr h
end
section
variable{X:Cx}{tg:Expr}
end
end L2
namespace L2
open PySem PySem.Spec PyProof.Rows
def Sf(K:Fg):R2:=λx y H Q=>∃l b xs zs,x=.ref l/\y=.ref b/\SqL K H l xs/\SqL K H b zs/\xs.length+zs.length<=sizeLine/\∀p,H p=none->Q (.ref p) (upd H p (.lst (xs++zs)))
theorem Ob{X:Cx}:OpR X (binaryOp .Add) (Sf X.K):=by
 intro pins s σ H x y v u Q I rx ry h;obtain⟨l,b,xs,zs,rfl,rfl,ha,hb,hz,q⟩:=h;cases rx;cases ry;obtain⟨its,J,⟨⟨c1,d1,t1,s1⟩,n1,L,M,f1,k1⟩,_⟩:=I.list ha;obtain⟨G,U,⟨⟨c2,d2,t2,s2⟩,n2,Y,Z,f2,k2⟩,_⟩:=I.list hb;simp only at M f1 k1 Z f2 k2;subst M f1 k1 Z f2 k2;have l1:=J.length;have l2:=U.length;refine concat_meets ⟨_,L,rfl⟩ ⟨_,Y,rfl⟩ noFill_list_add seq_list_add PySem.F.slot_list_add PySem.F.entry_list_add (PySem.F.args_list_add_2 _ _) (list_addW l b _ _ n1 n2 none none s1 s2 (by rw [List.size_toArray,List.size_toArray];lia)) ⟨L,Y,?_⟩;have ea:its.toArray++G.toArray=(its++G).toArray:=by simp
 rw [ea];exact⟨.ref _,_,I.lnew (t':=s.toks) (J.append U) (by rw [List.length_append];lia),rfl,q _ I.fresh⟩
theorem SO(xs:List V)(k:Nat):Y0 xs none (some (k:Int))=xs.take k:=by
 unfold Y0;rw [HT.sIx_none,HT.sIx_nat,List.drop_zero,Nat.sub_zero]
 by_cases h:k<=xs.length
 .rw [Nat.min_eq_left h]
 .rw [Nat.min_eq_right (3:),List.take_of_length_le (5:),List.take_of_length_le (3:)]
theorem V7{n k:Nat}(h:k<n):ixN n (k:Int)=some k:=by
 unfold ixN;rw [if_pos (3:),if_pos (3:)];simp
theorem Qz:sizeLine=16777216:=by decide
theorem VX{n:Nat}(h:n<=5000):n<=sizeLine:=by rw [Qz];lia
end L2
namespace L2
open PySem PySem.Spec PyProof.Rows
def QJ(X:Cx)(N':List Str)(scope:Scope)(cl:List (Str×Addr))(C:Addr)(fp:List Addr)(s₀:Shared)(H₀:Hp):Cx:=
 { X with N:=N',s₀:=s₀,H₀:=H₀,env:=compEnvC scope cl C X.env,outer:=X.stack,ex:=fp,fn:=λ_=>false,pn:=[],xe:=λ_ _=>False }
def PF(X:Cx)(ifs:List Expr)(t:TT):Prop:=
 ∀(pins:List (8:))(s:Shared)(σ:St)(H:Hp)(Q:Bool->Hp->Prop),Inv X pins σ H s->t σ H Q->
  wpAny (4:) X.A (forIn ifs true λc r=>if r=true then do let ok <-isTrue c X.env (eval c X.env);pure (ForInStep.yield ok)else pure (ForInStep.yield r)) (TP X pins σ Q) X.xe s
theorem QX{X:Cx}:PF X [] (λ_ H Q=>Q true H):=by
 intro pins s σ H Q I h;rw [List.forIn_nil];exact wpAny_pure ⟨H,I,h⟩
theorem Ur{X:Cx}{c:Expr}{t:TT}(hc:PT X c t):PF X [c] t:=by
 intro pins s σ H Q I h;rw [List.forIn_cons];refine wpAny_bind ?_;rw [if_pos rfl];refine wpAny_bind (thn (hc pins s σ H Q I h) λok G q=>wpAny_pure ?_);dsimp only;rw [List.forIn_nil];exact wpAny_pure q
structure OwnAt(X:Cx)(pins:List (8:))(H:Hp)(s:Shared)(C:Addr):Prop where
 ns:∃m,s.heap.Ns C m
 free:H C=none
 loc:C≠X.env.locals
 above:X.s₀.heap.objs.size<=C
 cells:∀x c,X.env.cells.lookup x=some c->c≠C
 pins:∀p∈X.pn++pins,p.1≠C
theorem OwnAt.go{X:Cx}{pins:List (8:)}{σ:St}{H:Hp}{s:Shared}{C:Addr}{h':Heap}(I:Inv X pins σ H s)(o:OwnAt X pins H s C)(hb:Heap.SameBut C s.heap h'):Inv X pins σ H { s with heap:=h' }:=
 I.turned (t':=s.toks) (λb u G e=>(hb.2 b G).trans e) o.free o.loc (.inr o.above) o.cells o.pins
def WX(n:Nat)(Pv:Nat->List V->Hp->Prop):Nat->Nat->Hp->Prop:=λi m H=>m=n-i/\i<=n/\∃ys,Pv i ys H
def Mi(n:Nat)(Pv:Nat->List V->Hp->Prop)(acc:Addr)(i m:Nat):VK:=λy H5=>∃ys,H5 acc=some (.lst ys)/\ys.length<sizeLine/\∃m',m'<m/\WX n Pv (i+1) m' (upd H5 acc (.lst (ys++[y])))
theorem Qv{n:Nat}{Pv:Nat->List V->Hp->Prop}{acc:Addr}{i:Nat}{y:V}{H5:Hp}{ys:List V}(hi:i<n)(hacc:H5 acc=some (.lst ys))(hl:ys.length<5000)(hP:Pv (i+1) (ys++[y]) (upd H5 acc (.lst (ys++[y])))):Mi n Pv acc i (n-i) y H5:=
 ⟨ys,hacc,Nat.lt_trans hl (12:),n-(i+1),by lia,rfl,hi,_,hP⟩
theorem ZI{n:Nat}{Pv:Nat->List V->Hp->Prop}{i:Nat}{H:Hp}{ys:List V}(hi:i<n)(hP:Pv (i+1) ys H):∃m',m'<n-i/\WX n Pv (i+1) m' H:=⟨n-(i+1),by lia,rfl,hi,ys,hP⟩
end L2
namespace L2
open PySem PySem.Spec PyProof.Rows
end L2
namespace L2
open PySem PySem.Spec PyProof.Rows
section
variable{X:Cx}
theorem ZE:QV X (.builtin "isinstance") (λxs H Q=>∃a ys T b,xs=[.ref a,.ty T]/\SqT X.K H a ys/\PySem.W.kitOne X.K (.type "tuple") (.type T)=some b/\Q (.bl b) H):=by
 intro pins s σ H xs M Q I r h;obtain⟨a,ys,T,b,rfl,G,e,q⟩:=h;obtain⟨u,c,rfl,J,L⟩:=V0 r;cases (show c=Value.type T from L);cases (show u=Value.ref a from J);obtain⟨its,U,p,_⟩:=I.tuple G;obtain⟨o,h1,h2,_⟩:=p;exact PySem.W.kia_one PySem.W.kitx_tuple I.kIn ⟨o,h1,h2⟩ e (46:) λtk=>⟨.bl b,H,I.tok tk,rfl,q⟩
def R7(t:TT):TT:=λσ H Q=>∃R:Bool->Hp->Prop,t σ H R/\∀b H',R b H'->Q b H'
theorem LQ{e:Expr}{t:TT}(h:PT X e t):PT X e (R7 t):=by
 intro pins s σ H Q I G;obtain⟨R,h1,h2⟩:=G;refine thn (h pins s σ H R I h1) λb L q=>?_;obtain⟨H',J,q⟩:=q;exact⟨H',J,h2 _ _ q⟩
end
theorem Gv{K:Fg}{H:Hp}:∀p:List Int,RdAll K H (p.map V.int) (p.map PyData.int)
 | []=>.nil
 | i::r=>.cons (.int i) (Gv r)
theorem Wf:∀p:List Int,PyData.canLayAll0 (p.map PyData.int)=true
 | []=>by simp [PyData.canLayAll0]
 | i::r=>by simp only [List.map_cons,PyData.canLayAll0,PyData.canLay0,Wf r,Bool.and_self]
end L2
namespace L2
open PySem PySem.Spec PyProof.Rows
section
variable{X:Cx}{pins:List (8:)}{σ:St}{H:Hp}{s:Shared}{h':Heap}
theorem Inv.turnedL{ch:List Addr}{t':Nat}(I:Inv X pins σ H s)(k:∀b o,b∉ch->s.heap.get? b=some o->h'.get? b=some o)(hf:∀b∈ch,YH X pins H b):Inv X pins σ H { s with heap:=h',toks:=t' }:=by
 have J:∀b u,H b=some u->b∉ch:=λb u e z=>by rw [(hf b z).1]at e;cases e
 refine I.step (g':=s.gens) (d':=s.drawn) (ch:=ch) (λb L=>?_) (λb o _ _ G e _=>k b o G e) (λb o _ _ G e _=>⟨o.slots,k b o G e⟩) (λ_ _ _ _ n=>n)
  (λb o G e=>⟨o,k b o G e⟩) (λ_ _ e=>e) (λ_ _ _ e=>e) (λb ps e=>⟨#[],by rw [e];simp⟩) (λm M=>?_) (λb u e=>?_) I.bare
 .obtain⟨f0,f1,f2,f3,U,Y⟩:=hf b L;exact⟨f3,f1,U,Y⟩
 .obtain⟨o,es,Z,ho,r⟩:=M;exact⟨o,es,Z,k _ o (λz=>(hf _ z).2.1 rfl) ho,r⟩
 .refine(I.hok b u e).stay (λc v G q=>k c v ?_ q) (λ_ q=>q) λ_ _ q=>q;rcases G with z | z
  .rw [z];exact J b u e
  .exact J c _ z
theorem Inv.turnedNew{ch:List Addr}{t':Nat}{a:Addr}{o:HO}(I:Inv X pins σ H s)(k:∀b o,b∉ch->s.heap.get? b=some o->h'.get? b=some o)(hf:∀b∈ch,YH X pins H b)
 (hp:s.heap.objs.size<=a) (new:ObjOk X.prog X.w (upd H a o) h' a o):Inv X pins σ (upd H a o) { s with heap:=h',toks:=t' }:=by
 have J:H a=none:=I.hok.fresh hp;have M:∀b u,H b=some u->b∉ch:=λb u e z=>by rw [(hf b z).1]at e;cases e
 have lt:∀b u,s.heap.get? b=some u->b≠a:=λb u e=>Nat.ne_of_lt (Nat.lt_of_lt_of_le (36:) hp);refine I.step (g':=s.gens) (d':=s.drawn) (ch:=ch) (λb L=>?_) (λb o _ _ G e _=>k b o G e) (λb o _ _ G e _=>⟨o.slots,k b o G e⟩) (λb u _ e n=>by rw [Qh (lt b u e)];exact n)
  (λb o G e=>⟨o,k b o G e⟩) (λb xs e=>by rw [Qh (Qi e J)];exact e) (λb u xs e=>by rw [Qh (Qi e J)];exact e) (λb ps e=>⟨#[],by rw [Qh (Qi e J),e];simp⟩) (λm U=>?_) (λb u e=>?_) I.bare
 .obtain⟨f0,f1,f2,f3,Y,Z⟩:=hf b L;exact⟨f3,f1,Y,Z⟩
 .obtain⟨o,es,ep,ho,r⟩:=U;exact⟨o,es,ep,k _ o (λz=>(hf _ z).2.1 rfl) ho,r⟩
 .by_cases L:b=a
  .subst L;rw [Qb]at e;cases e;exact new
  .rw [Qh L]at e;refine(I.hok b u e).stay (λc v G q=>k c v ?_ q) (λc q=>by rw [Qh (Qi q J)];exact q) λc xs q=>by rw [Qh (Qi q J)];exact q
   rcases G with z | z
   .rw [z];exact M b u e
   .exact M c _ z
end
def Itz(K:Fg)(a b:Addr)(xs ys:List V):It:=
 ⟨λi H=>SqL K H a xs/\SqL K H b ys/\i<xs.length/\i<ys.length,λi H x H'=>∃p u v,H p=none/\x=.ref p/\H'=upd H p (.tup [u,v])/\xs[i]?=some u/\ys[i]?=some v,λi H=>SqL K H a xs/\SqL K H b ys/\(xs.length<=i\/ys.length<=i)⟩
theorem MF{P:Program}{w:World}{K:Fg}{elts:List Expr}{k1:Nat}{pos:Pos}(a b z:Addr)(xs ys:List V)(TI TO i1 i2:Addr)(Ap:ZipApart z TI TO i1 i2 a b):
 Turn P w K (.Tuple elts k1 pos) (Itz K a b xs ys) [z,TI,TO,i1,i2] z (λi h=>IsZip h z TI TO .none/\IsPair h TI (.ref i1) (.ref i2)/\(∃u v,IsPair h TO u v)/\h.IsListIter i1 a i/\h.IsListIter i2 b i) where
 mem:=by simp
 obj:=λi h st c G=>by
  obtain⟨U,J,⟨u,v,L⟩,h1,h2⟩:=st;simp only [List.mem_cons,List.mem_nil_iff,or_false]at G;rcases G with rfl | rfl | rfl | rfl | rfl
  .exact⟨_,U,λv z=>by have Y:Data.fields _=Data.cell v:=z;cases Y⟩
  .exact⟨_,J,λv z=>by have Y:Data.seq _ _=Data.cell v:=z;cases Y⟩
  .exact⟨_,L,λv z=>by have Y:Data.seq _ _=Data.cell v:=z;cases Y⟩
  .obtain⟨o,e,c,d⟩:=h1;exact(41:)
  .obtain⟨o,e,c,d⟩:=h2;exact(41:)
 keep:=λi h h' st k=>by
  obtain⟨U,J,⟨u,v,L⟩,h1,h2⟩:=st;exact(47:)
 item:=by
  intro X hP hw hK G i pins s σ H E I hf st hg;subst hP hw hK;obtain⟨U,J,⟨u0,v0,L⟩,h1,h2⟩:=st;obtain⟨qa,qb,lx,ly⟩:=hg;obtain⟨its,rv,p,_⟩:=I.list qa;obtain⟨ac,Z,p2,_⟩:=I.list qb;have ex:xs[i]?=some xs[i]:=List.getElem?_eq_getElem lx;have ey:ys[i]?=some ys[i]:=List.getElem?_eq_getElem ly;obtain⟨u,hu,ru⟩:=rv.get ex;obtain⟨v,hv,ad⟩:=Z.get ey;refine wpAny_pyNext_zip_item Ap U J L h1 h2 p.isList p2.isList (x:=u) (y:=v) (by simpa using hu) (by simpa using hv) λh' a1 a2 a3 a4 a5 a6 hk=>?_;refine⟨.ref s.heap.objs.size,rfl,wpAny_letOwnedTupleGo_zip (s:={ s with heap:=h' }) a1 λab ae M=>?_⟩;have lt:∀{c o},s.heap.get? c=some o->c≠s.heap.objs.size:=λe=>Nat.ne_of_lt (36:);have e5:IsPair ab s.heap.objs.size u v:=(M.2 _ (Ne.symm (lt U))).trans a5;have aa:∀c∈[z,TO,i1,i2],YH X pins H c:=λc G=>hf c (by
   simp only [List.mem_cons,List.mem_nil_iff,or_false]at G ⊢;rcases G with rfl | rfl | rfl | rfl<;>simp)
  have I2:Inv X pins σ (upd H s.heap.objs.size (.tup [xs[i],ys[i]])) { s with heap:=ab,toks:=s.toks }:=by
   refine I.turnedNew (ch:=[z,TO,i1,i2]) (λc o G e=>?_) aa (5:) ⟨by show 2<=sizeLine;decide,[u,v],.cons ru (.cons ad .nil),⟨_,e5,rfl,_,rfl⟩⟩;simp only [List.mem_cons,List.mem_nil_iff,or_false,not_or]at G;exact(M.2 c G.1).trans (hk c o G.1 G.2.1 G.2.2.1 G.2.2.2 e)
  have af:∀c∈[z,TI,TO,i1,i2],upd H s.heap.objs.size (.tup [xs[i],ys[i]]) c=none:=λc G=>by
   have ag:=hf c G;have:c≠s.heap.objs.size:=by
    simp only [List.mem_cons,List.mem_nil_iff,or_false]at G;rcases G with rfl | rfl | rfl | rfl | rfl
    .exact lt U
    .exact lt J
    .exact lt L
    .obtain⟨o,e,_⟩:=h1;exact lt e
    .obtain⟨o,e,_⟩:=h2;exact lt e
   rw [Qh this];exact ag.1
  exact⟨.ref s.heap.objs.size,_,I2,rfl,⟨s.heap.objs.size,_,_,I.fresh,rfl,rfl,ex,ey⟩,⟨ae,M.extBut _ _ Ap.TIz (hk _ _ Ap.TIz Ap.TITO Ap.TIi1 Ap.TIi2 J),⟨_,_,M.extBut _ _ Ap.TOz a2⟩,a3.extBut M.extBut Ap.i1z,a4.extBut M.extBut Ap.i2z⟩,af⟩
 done:=by
  intro X hP hw hK G i pins s σ H E I hf st hg;subst hP hw hK;obtain⟨U,J,⟨u0,v0,L⟩,h1,h2⟩:=st;obtain⟨qa,qb,hl⟩:=hg;obtain⟨its,rv,p,_⟩:=I.list qa;obtain⟨ac,Z,p2,_⟩:=I.list qb;have l1:=rv.length;have l2:=Z.length;have aa:∀c∈[z,TO,i1,i2],YH X pins H c:=λc G=>hf c (by
   simp only [List.mem_cons,List.mem_nil_iff,or_false]at G ⊢;rcases G with rfl | rfl | rfl | rfl<;>simp)
  refine wpAny_pyNext_zip_end (I.ok.hd G) Ap U J L h1 h2 p.isList p2.isList ?_ λh' hk=>⟨rfl,I.turnedL (t':=s.toks) (ch:=[z,TO,i1,i2]) (λc o G e=>?_) aa⟩
  .rcases hl with q | q
   .exact .inl (by simp;lia)
   .exact .inr (by simp;lia)
  .simp only [List.mem_cons,List.mem_nil_iff,or_false,not_or]at G;exact hk c o G.1 G.2.1 G.2.2.1 G.2.2.2 e
 self:=λ_ _ _ _ _ st h=>wpAny_pyIter_zip st.1 h
theorem nne{x y:Nat}(h:x<y\/y<x):x≠y:=by lia
section
variable{X:Cx}{elts:List Expr}{k1:Nat}{tpos:Pos}
def SQ(K:Fg)(ta:TA):TI:=λσ H R=>ta σ H λvs H1=>∃a b xs ys,vs=[.ref a,.ref b]/\SqL K H1 a xs/\SqL K H1 b ys/\R (Itz K a b xs ys) H1
theorem XR{e1 e2:Expr}{ta:TA}{p pos:Pos}(hg:Gl X "zip")(hm:X.mg "zip"=none)(ha:PA X [e1,e2] ta)(hs:starEach [e1,e2] X.env=[(false,eval e1 X.env),(false,eval e2 X.env)]:=by rfl)(hs2:starEach [e2] X.env=[(false,eval e2 X.env)]:=by rfl):
 PI X (.Tuple elts k1 tpos) (.Call (.Name "zip" p) [e1,e2] [] pos) (SQ X.K ta):=by
 intro pins s σ H R I h;refine Call_ (Z7 I hg hm PyProof.Rows.boot_zip (PyProof.Rows.callWith_type1 (thn (ha pos pins s σ H _ I h) λus G ⟨vs,H1,J,r1,q1⟩=>?_) (by rw [hs,hs2]) (by rw [hs2];rfl)));obtain⟨a,b,xs,ys,e,qa,qb,q⟩:=q1;subst e;obtain⟨u1,u2,e3,r3,r4⟩:=r1.two;subst e3;cases (show u1=Value.ref a from r3);cases (show u2=Value.ref b from r4);obtain⟨its,rv,pl,_⟩:=J.list qa;obtain⟨aa,ab,L,_⟩:=J.list qb;have la:@LT.lt Nat _ a G.heap.objs.size:=by obtain⟨o,n,e,_⟩:=pl;exact Heap.lt_size e
 have lb:@LT.lt Nat _ b G.heap.objs.size:=by obtain⟨o,n,e,_⟩:=L;exact Heap.lt_size e
 refine call_zip_2 pl.isList L.isList λh' U Y Z h1 h2 ac hk=>?_;refine wpAny_pyIter_zip U ?_;have I2:Inv X pins σ H1 { G with heap:=h' }:=J.kept (t':=G.toks) hk;refine⟨G.heap.objs.size+4,[G.heap.objs.size+4,G.heap.objs.size+2,G.heap.objs.size+3,G.heap.objs.size,G.heap.objs.size+1],_,_,H1,rfl,I2,MF a b (G.heap.objs.size+4) xs ys (G.heap.objs.size+2) (G.heap.objs.size+3) G.heap.objs.size (G.heap.objs.size+1) ?_,⟨U,Y,⟨_,_,Z⟩,h1,h2⟩,λc hc=>?_,q⟩
 .constructor<;>(refine nne ?_;lia)
 .have M:@LE.le Nat _ G.heap.objs.size c:=by
   simp only [List.mem_cons,List.mem_nil_iff,or_false]at hc;rcases hc with rfl | rfl | rfl | rfl | rfl<;>lia
  exact J.fpOk M (J.hok.fresh M)
theorem Xo{K:Fg}{a b:Addr}{xs ys:List V}{g:TG}{tb:TS}{D:Ends}{σ:St}{H:Hp}(hlen:xs.length=ys.length)(Pv:Nat->St->Hp->Prop)(h0:Pv 0 σ H)(hl:∀i σ H,i<=xs.length->Pv i σ H->SqL K H a xs/\SqL K H b ys)
 (hs:∀i u v p σ H,xs[i]?=some u->ys[i]?=some v->H p=none->Pv i σ H->g (.ref p) σ (upd H p (.tup [u,v])) λσ2 H2=>tb { D with nx:=Pv (i+1),ct:=Pv (i+1),bk:=D.nx } σ2 H2) (hd:∀σ H,Pv xs.length σ H->D.nx σ H):
 ∃W:Nat->Nat->St->Hp->Prop,(∃m,W 0 m σ H)/\∀i m σ H,W i m σ H->
  ((Itz K a b xs ys).stop i H/\D.nx σ H)\/((Itz K a b xs ys).go i H/\∃N:St->Hp->Prop,(38:)/\∀x H',(Itz K a b xs ys).yld i H x H'->g x σ H' λσ2 H2=>tb { D with nx:=N,ct:=N,bk:=D.nx } σ2 H2):=by
 refine⟨λi m σ H=>m=xs.length-i/\i<=xs.length/\Pv i σ H,⟨xs.length-0,rfl,Nat.zero_le _,h0⟩,?_⟩;rintro i m σ H ⟨rfl,hi,p⟩;obtain⟨J,L⟩:=hl i σ H hi p
 by_cases h:i<xs.length
 .refine .inr ⟨⟨J,L,h,by lia⟩,Pv (i+1),λσ' H' G=>⟨xs.length-(i+1),by lia,rfl,h,G⟩,?_⟩;rintro x H' ⟨G,u,v,hp,rfl,rfl,M,U⟩;exact hs i u v G σ H M U hp p
 .have e:i=xs.length:=by lia
  subst e;exact .inl ⟨⟨J,L,.inl (5:)⟩,hd σ H p⟩
end
end L2
namespace L2
open PySem PySem.Spec PyProof.Rows
theorem U7:∀{ns:List Int}{us:List Value},Vals (ns.map V.int) us->∃xs:List (Int×Tok),us=xs.map (λp=>Value.int p.1 p.2)/\xs.map (·.1)=ns
 | [],_,.nil=>⟨[],rfl,rfl⟩
 | n::ns,_,.cons r rr=>by
  obtain⟨t,e⟩:=r;obtain⟨xs,G,J⟩:=U7 rr;exact⟨(n,t)::xs,by rw [e,G];rfl,by rw [List.map_cons,J]⟩
theorem Lb(xs:List (Int×Tok)):intItems xs.toArray=(xs.map (λp=>Value.int p.1 p.2)).toArray:=by
 simp [intItems]
theorem OI(xs:List (Int×Tok))(j:Nat):preSum (numAt xs.toArray) j=((xs.map (·.1)).take j).sum:=by rw [preSum_eq]
section
variable{X:Cx}
end
section
variable{prog:Program}{w:World}{A:Around}{R:Result->Shared->Prop}{I:Addr}{fp wr:List Addr}{n:Nat}{P:Nat->Value->Prop}{St:Nat->Heap->Prop}
end
section
variable{prog:Program}{w:World}{A:Around}{E:Value->Shared->Prop}{s:Shared}
end
end L2
namespace L2
open PySem PySem.Spec PyProof.Rows
section
variable{X:Cx}{x:Str}{p pos:Pos}{e:Expr}{es:List Expr}{kws:List Keyword}{t tk:TA}{id:String}{ks:List Str}{r:List V->List V->Hp->VK->Prop}
end
end L2
namespace L2
open PySem PySem.Spec PyProof.Rows
structure CompG(X:Cx)(xs caps:List Str)(cap:List Nat)(scope:Scope)(cl:List (Str×Addr)):Prop where
 clos:closureFor scope X.env=pure cl
 cell:∀y∈scope.names,y.2≠.cell
 kind:scope.kind=.function
 names:∀y∈scope.names,y.2=.local->scope.names.lookup y.1=some .local
 lx:∀x∈xs,scope.names.lookup x=some .local
 nd:(xs++caps).Nodup
 from_:∀y c,cl.lookup y=some c->X.env.cells.lookup y=some c
 has:∀y,((relabel scope X.env).names.lookup y=some .cell\/(relabel scope X.env).names.lookup y=some .free)->∃c,cl.lookup y=some c
 len:cap.length=caps.length
 cps:∀(i:Nat)(y:Str),caps[i]?=some y->∃j,cap[i]?=some j/\X.N[j]?=some y/\X.env.scope.names.lookup y=some .cell/\(relabel scope X.env).names.lookup y=some .cell
def Yx(cap:List Nat)(σ:St):St:=cap.map λj=>(σ[j]?).getD none
def YT(n:Nat)(wi:TI)(cap:List Nat)(g:TG)(tt:TT)(te:TE):TE:=λσ H Q=>wi σ H λJ H1=>∀acc,H1 acc=none->∃W:Nat->Nat->Hp->Prop,(∃m,W 0 m (upd H1 acc (.lst [])))/\∀i m H2,W i m H2->
 (J.stop i H2/\Q (.ref acc) H2)\/(J.go i H2/\∀x H3,J.yld i H2 x H3->∀as:St,as.length=n->g x (as++Yx cap σ) H3 λσ4 H4=>(∃bs:St,bs.length=n/\σ4=bs++Yx cap σ)/\tt σ4 H4 λok H5=>if ok=true then
  te σ4 H5 (45:)
  else ∃m',m'<m/\W (i+1) m' H5)
theorem Wm{X:Cx}{elt iter tg:Expr}{xs:List Str}{ifs:List Expr}{scope:Scope}{pos pos':Pos}{wi:TI}{g:TG}{tt:TT}{te:TE}{cl:List (Str×Addr)}{caps:List Str}{cap:List Nat}
 (O:CompG X xs caps cap scope cl) (hc:X.calm=true) (hi:PI X tg iter wi) (hg:∀C fp s₀ H₀,PG (17:) tg g)
 (ht:∀C fp s₀ H₀,PF (17:) ifs tt)
 (hs:∀x,foldedSetIterable iter X.env x=pure x) {pins:List (8:)} {s:Shared} {σ:St} {H:Hp} {Q:VK} {use:Option (Value->Sem Unit)} {QQ:Value->Shared->Prop} (I:Inv X pins σ H s)
 (h:YT xs.length wi cap g tt te σ H Q)
 (hfin:∀D C H' s',Inv X pins σ H' s'->OwnAt X pins H' s' C->Q (.ref D) H'->compPost (4:) X.A X.xe use QQ (.ref D) C (.ok .next) s')
 (hw:∀{fp:List Addr}{s3:Shared}{H3:Hp}{D:Value}{p9:List (8:)}{s9:Shared}{σ9:St}{H9:Hp}{Q9:VK},Inv X pins σ H3 s3->(∀b∈fp,(b∈X.ex\/X.s₀.heap.objs.size<=b)/\b≠X.env.locals/\(∀x c,X.env.cells.lookup x=some c->c≠b)/\∀p∈X.pn++pins,p.1≠b)->Inv (13:) p9 σ9 H9 s9->te σ9 H9 Q9->
  wpAny (4:) X.A (eval elt (compEnvC scope cl s3.heap.objs.size X.env)) (EP (13:) p9 σ9 Q9) (notedBy (4:) X.A (compEnvC scope cl s3.heap.objs.size X.env) (λx s'=>compPost (4:) X.A X.xe use QQ D s3.heap.objs.size (.error x) s')) s9):
 wpAny (4:) X.A (comprehension (14:) scope X.env pos' (newList []) false (eval iter X.env) use) QQ X.xe s:=by
 refine wpAny_comprehension_free rfl hs O.clos O.kind O.names (thn (hi pins s σ H _ I h) λv s1 h1=>thn h1 λbq Y h2=>?_);obtain⟨it,fp,tn,J,H1,e,I2,T,t0,f2,hR⟩:=h2;subst e;refine wpAny_newObj_type (wpAny_newFunctionEnv O.cell (by intro y hy;simp at hy) (λan ap aq=>?_) O.kind);have ah:H1 Y.heap.objs.size=none:=I2.fresh;obtain⟨W,⟨m0,w0⟩,ai⟩:=hR Y.heap.objs.size ah;have L:Inv X pins σ (upd H1 Y.heap.objs.size (.lst [])) { Y with heap:=Y.heap.push { cls:=.type "list",data:=.seq ([]:List Value).toArray } }:=I2.lnew (t':=Y.toks) (ys:=[]) (its:=[]) .nil (Nat.zero_le _);generalize ar:({ Y with heap:=Y.heap.push { cls:=.type "list",data:=.seq ([]:List Value).toArray } }:Shared)=s3 at ap aq L ⊢;generalize hD:Y.heap.objs.size=D at L w0 ai ah ⊢;generalize a9:upd H1 D (.lst [])=H3 at L w0;have U:∀b o,s3.heap.get? b=some o->an.get? b=some o:=λb o e=>(aq.2 b (Nat.ne_of_lt (36:))).trans (Heap.get?_push_of_some _ e);have a1:∀b∈fp,H3 b=none:=λb G=>by
  rw [<-a9,Qh]
  .exact(f2 b G).1
  .intro z;obtain⟨o,e,_⟩:=T.obj _ _ t0 b G;exact absurd (36:) (by rw [z,hD];exact Nat.lt_irrefl _)
 have ag:H3 s3.heap.objs.size=none:=L.fresh;have aj:∀b∈fp,b≠s3.heap.objs.size:=λb G z=>by
  obtain⟨o,e,_⟩:=T.obj _ _ t0 b G;have h2:s3.heap.objs.size=Y.heap.objs.size+1:=by rw [<-ar];exact Heap.size_push ..
  exact absurd (36:) (by rw [z,h2];exact Nat.not_lt.mpr (Nat.le_succ _))
 have t3:tn 0 an:=T.keep _ _ _ t0 λb G o e=>U b o (by rw [<-ar];exact Heap.get?_push_of_some _ e);have au:(13:).Ok:=by
  refine⟨L.ok.mod,O.kind,L.ok.glob,L.ok.blt,Nat.le_refl _,λy z c e1 e2=>L.ok.inj y z c (O.from_ y c e1) (O.from_ z c e2),λy hy=>O.has y hy,λy c z _=>(nomatch z),L.ok.hd,L.ok.frames,.inl rfl,λb G=>⟨aj b G,λy c e=>?_⟩,L.bs,Nat.le_trans L.ok.bsz L.sz,λb o e G=>?_,λb G z=>?_,L.stack,L.stkFree⟩
  .exact(f2 b G).2.2.2.2.1 y c (O.from_ y c e)
  .rcases(f2 b G).2.2.2.1 with q | q
   .exact L.ok.noex b o e q
   .exact absurd (Nat.lt_of_lt_of_le (36:) (Nat.le_trans L.ok.bsz q)) (Nat.lt_irrefl _)
  .rcases List.mem_cons.mp (L.stkSub b z)with q | q
   .exact(f2 b G).2.1 q
   .exact(f2 b G).2.2.1 q
 have I4:Inv (13:) [] (List.replicate xs.length none++Yx cap σ) H3 { s3 with heap:=an,toks:=s3.toks+([]:List (Str×Value)).length }:=by
  obtain⟨m,hn,hl⟩:=id L.loc;refine⟨au,rfl,L.bare,Un.kept U,⟨_,ap,λi y v e1 e2 e3=>?_⟩,λy c e=>?_,ag,λy c e=>L.freeC y c (O.from_ y c e),λp hp=>(nomatch hp),L.hok.kept U,?_⟩
  .by_cases av:i<xs.length
   .rw [List.getElem?_append_left (by rw [List.length_replicate];exact av),List.getElem?_replicate,if_pos av]at e2;cases e2
   .have ba:caps[i-xs.length]?=some y:=by
     have a3:(xs++caps)[i]?=some y:=e1
     rwa [List.getElem?_append_right (3:)]at a3
    obtain⟨j,hj,hN,hk,aw⟩:=O.cps _ y ba;have ae:(σ[j]?).getD none=some v:=by
     rw [List.getElem?_append_right (by rw [List.length_replicate];lia),List.length_replicate]at e2;unfold Yx at e2
     simpa [hj]using e2
    have a4:σ[j]?=some (some v):=by
     cases q:σ[j]? with
     | none=>rw [q]at ae;cases ae
     | some a=>rw [q]at ae;exact congrArg some ae
    obtain⟨u,r,l⟩:=hl j y v hN a4 (.inr (.inl hk));refine⟨u,r,?_⟩;rcases l with⟨k,_⟩ | ⟨k,c,e,z⟩
    .have k':X.env.scope.names.lookup y=some .local:=k;rw [hk]at k';cases k'
    .obtain⟨c',ax⟩:=O.has y (.inl aw);have:c'=c:=Option.some.inj ((O.from_ y c' ax).symm.trans e);subst this;refine .inr ⟨.inl aw,c',ax,?_⟩;obtain⟨o,ho,hd⟩:=z;exact⟨o,U _ _ ho,hd⟩
  .obtain⟨v,o,ho,hd⟩:=L.cell y c (O.from_ y c e);exact⟨v,o,U _ _ ho,hd⟩
  .show(List.replicate xs.length none++Yx cap σ).length=(xs++caps).length;simp [Yx,O.len]
 have fin:∀(H':Hp)(bb:St)(s':Shared),Inv (13:) [] bb H' s'->Q (.ref D) H'->
  compPost (4:) X.A X.xe use QQ (.ref D) s3.heap.objs.size (.ok .next) s':=λH' bb s' I' q=>by
  obtain⟨m,hn,_⟩:=id I'.loc;have hU:Un (frs X.stack) fp H3 H' s3.heap s'.heap:=I'.base;have a5:HOk X.prog X.w H' s'.heap:=I'.hok;have bc:s'.os=s3.os:=I'.os;have I6:Inv X pins σ H' s':=L.call' (ch:=fp) bc hU a5 I'.bare (λb G=>⟨(f2 b G).2.2.2.1,(f2 b G).2.1,(f2 b G).2.2.2.2⟩);refine hfin D _ H' s' I6 ⟨⟨m,hn⟩,I'.free,Nat.ne_of_gt L.lt,L.sz,λy c e z=>?_,λp hp z=>?_⟩ q
  .obtain⟨v,hv⟩:=L.cell y c e;exact absurd hv.lt (by rw [z];exact Nat.lt_irrefl _)
  .exact absurd (Heap.lt_size (L.pin p hp).1) (by rw [z];exact Nat.lt_irrefl _)
 have ad:∀{H':Hp},(∀b∈fp,H' b=none)->∀b∈fp,YH (13:) [] H' b:=λhn b G=>
  ⟨hn b G,aj b G,au.exfs b G,.inl G,λy c e=>(f2 b G).2.2.2.2.1 y c (O.from_ y c e),λp hp=>(nomatch hp)⟩
 have ak:codeAny (4:) X.A (.compLoop (14:) 0 (.ref it) (.ref D) (compEnvC scope cl s3.heap.objs.size X.env))
  (compPost (4:) X.A X.xe use QQ (.ref D) s3.heap.objs.size) { s3 with heap:=an,toks:=s3.toks+([]:List (Str×Value)).length }:=by
  refine codeAny_loop rfl (λn s'=>∃i as H',as.length=xs.length/\Inv (13:) [] (as++Yx cap σ) H' s'/\tn i s'.heap/\(∀b∈fp,H' b=none)/\W i n H') ?_ m0 ⟨0,_,H3,List.length_replicate,I4,t3,a1,w0⟩;rintro n s5 ⟨i,as,H5,bd,I5,ay,az,w5⟩;show wpAny _ _ ((compTurn (14:) 0 (.ref it) (.ref D) (compEnvC scope cl s3.heap.objs.size X.env)).onRaise (λx=>do noteFrame x (compEnvC scope cl s3.heap.objs.size X.env);theTreesLotGoes x)) _ _ s5;refine wpAny_noted ?_;rw [compTurn_list];refine wpAny_bind (wpAny_standAt (wpAny_bind ?_));have Z:∀{M:Model}{A:Around}{α:Type}{t:Sem α}{P:α->Shared->Prop}{E':Value->Shared->Prop}{s':Shared},wpAny M A t P (λ_ _=>False) s'->wpAny M A t P E' s':=λh=>wpAny_mono h (λ_ _ q=>q) λ_ _ z=>z.elim;rcases ai i n H5 w5 with⟨a6,qn⟩ | ⟨go,step⟩
  .refine Z (thn (T.done (13:) rfl rfl rfl hc i [] s5 _ H5 (λ_ _=>False) I5 (ad az) ay a6) λr s6 ⟨hr,I6⟩=>?_);subst hr;exact wpAny_pure (fin H5 _ s6 I6 qn)
  .refine Z (thn (T.item (13:) rfl rfl rfl hc i [] s5 _ H5 (λ_ _=>False) I5 (ad az) ay go) λr s6 ⟨u,hr,h6⟩=>?_);subst hr;refine wpAny_bind (Z (thn h6 λ_ s7 ⟨y,H7,I7,r7,y7,al,be⟩=>?_));have bf:=I7.pinned (ad be) (T.obj _ _ al);have a7:=step y H7 y7 as bd;refine wpAny_bind (Z (thn (hg s3.heap.objs.size fp s3 H3 _ s7 _ H7 y _ _ bf r7 a7) λ_ s8 ⟨bt,H8,I8,⟨bs,bg,bp⟩,ao⟩=>?_));subst bp;refine wpAny_bind (Z (thn (ht s3.heap.objs.size fp s3 H3 _ s8 _ H8 _ I8 ao) λbh s9 ⟨H9,I9,q9⟩=>?_));have af:∀{aa:Hp}{ab:Shared}{m':Nat},Inv (13:) ([]++Us fp s7.heap) (bs++Yx cap σ) aa ab->m'<n->W (i+1) m' aa->
    ∃m,m<n/\∃i as H',as.length=xs.length/\Inv (13:) [] (as++Yx cap σ) H' ab/\tn i ab.heap/\(∀b∈fp,H' b=none)/\W i m H':=λ{aa ab m'} ac hm am=>by
    refine⟨m',hm,i+1,bs,aa,bg,ac.unpinned,T.keep _ _ _ al λb G o e=>(ac.pin (b,o) (List.mem_append_right _ (List.mem_append_right _ (Zp G e)))).1,λb G=>?_,am⟩;obtain⟨o,e,d⟩:=T.obj _ _ al b G;exact(ac.pin (b,o) (List.mem_append_right _ (List.mem_append_right _ (Zp G e)))).2.1
   cases bh with
   | false=>
    rw [if_neg Bool.false_ne_true]at q9;obtain⟨m',hm,w9⟩:=q9;exact wpAny_pure ⟨rfl,af I9 hm w9⟩
   | true=>
    rw [if_pos rfl]at q9;refine wpAny_bind (wpAny_bind (thn (hw L (λb G=>⟨(f2 b G).2.2.2.1,(f2 b G).2.1,(f2 b G).2.2.2.2⟩) I9 q9) λyv ab ⟨yy,aa,ac,bi,ys,bj,a8,m',hm,am⟩=>?_));refine wpAny_bind (Z (thn (QN (X:=QJ X (xs++caps) scope cl s3.heap.objs.size fp s3 H3) _ ab _ aa (.ref D) [yy] (.ref D) [yv] (λ_ a0=>W (i+1) m' a0) ac rfl (.cons bi .nil) ⟨D,ys,yy,rfl,rfl,bj,a8,am⟩) λ_ br ⟨_,a0,bn,_,bo⟩=>?_));exact wpAny_pure (wpAny_pure ⟨rfl,af bn hm bo⟩)
 refine codeAny_compStart_list ak (T.self _ 0 _ _ _ t3 ak)
theorem Jr{X:Cx}{elt iter tg:Expr}{xs:List Str}{ifs:List Expr}{scope:Scope}{pos pos':Pos}{wi:TI}{g:TG}{tt:TT}{te:TE}{cl:List (Str×Addr)}{caps:List Str}{cap:List Nat}
 (O:CompG X xs caps cap scope cl) (hc:X.calm=true) (hi:PI X tg iter wi) (hg:∀C fp s₀ H₀,PG (17:) tg g)
 (ht:∀C fp s₀ H₀,PF (17:) ifs tt) (he:∀C fp s₀ H₀,PE (17:) elt te)
 (hs:∀x,foldedSetIterable iter X.env x=pure x) {pins:List (8:)} {s:Shared} {σ:St} {H:Hp} {Q:VK} {use:Option (Value->Sem Unit)} {QQ:Value->Shared->Prop} (I:Inv X pins σ H s)
 (h:YT xs.length wi cap g tt te σ H Q)
 (hfin:∀D C H' s',Inv X pins σ H' s'->OwnAt X pins H' s' C->Q (.ref D) H'->compPost (4:) X.A X.xe use QQ (.ref D) C (.ok .next) s'):
 wpAny (4:) X.A (comprehension (14:) scope X.env pos' (newList []) false (eval iter X.env) use) QQ X.xe s:=
 Wm O hc hi hg ht hs I h hfin λ_ _ G J=>wpAny_mono (he _ _ _ _ _ _ _ _ _ G J) (λ_ _ q=>q) λ_ _ L=>L.elim
theorem QK{X:Cx}{elt iter tg:Expr}{xs:List Str}{ifs:List Expr}{scope:Scope}{pos:Pos}{wi:TI}{g:TG}{tt:TT}{te:TE}{cl:List (Str×Addr)}{caps:List Str}{cap:List Nat}
 (O:CompG X xs caps cap scope cl) (hc:X.calm=true) (hi:PI X tg iter wi) (hg:∀C fp s₀ H₀,PG (17:) tg g)
 (ht:∀C fp s₀ H₀,PF (17:) ifs tt) (he:∀C fp s₀ H₀,PE (17:) elt te)
 (hs:∀x,foldedSetIterable iter X.env x=pure x:=by intro _;rfl):
 PE X (14:) (YT xs.length wi cap g tt te):=by
 intro pins s σ H Q I h;rw [eval_ListComp];exact Jr (use:=none) O hc hi hg ht he hs I h λD C H' s' G o q=>by
  obtain⟨m,J⟩:=o.ns;exact⟨m,J,λh' L=>⟨.ref D,H',o.go G L,rfl,q⟩⟩
theorem ZO{X:Cx}{elt iter tg:Expr}{xs:List Str}{y:Str}{py:Pos}{ifs:List Expr}{scope:Scope}{pos spos:Pos}{wi:TI}{g:TG}{tt:TT}{te:TE}{cl:List (Str×Addr)}{caps:List Str}{cap:List Nat}{i:Nat}
 (O:CompG X xs caps cap scope cl) (hc:X.calm=true) (hi:PI X tg iter wi) (hg:∀C fp s₀ H₀,PG (17:) tg g)
 (ht:∀C fp s₀ H₀,PF (17:) ifs tt) (he:∀C fp s₀ H₀,PE (17:) elt te)
 (hN:X.N.Nodup) (hy:X.N[i]?=some y) (hl:X.env.scope.names.lookup y=some .local)
 (hsw:swapsWith (14:) (some (.Name y py)) spos.line X.env=pure true:=by rfl)
 (hs:∀x,foldedSetIterable iter X.env x=pure x:=by intro _;rfl):
 PS X (.Assign [.Name y py] (14:) spos) (PB (YT xs.length wi cap g tt te) (QP i)):=by
 intro pins s σ H D I h;rw [exec_Assign_Name_used _ _ _ _ hsw];refine wpAny_bind (wpAny_standAt (wpAny_bind ?_));show wpAny _ X.A (do let _ <-comprehension (14:) scope X.env _ (newList []) false (eval iter X.env) (some (assign (.Name y py) X.env))) _ _ s;refine wpAny_bind (thn (Jr (use:=some (assign (.Name y py) X.env)) (QQ:=λ_ s'=>SP X pins D .next s') O hc hi hg ht he hs I h λL C H' s' U o q=>?_) λ_ s' Y=>wpAny_pure (wpAny_pure Y));obtain⟨m,M⟩:=o.ns;show wpAny _ X.A (assign (.Name y py) X.env (.ref L)) _ _ s';refine wpAny_assign_Name (J3 (v:=.ref L) U hN hy (.inl hl) rfl (λZ I2 G=>?_) (.inr hl));obtain⟨a,G,ha⟩:=G;have J:C≠a:=by
  rcases ha with z | z
  .rw [z];exact o.loc
  .exact Ne.symm (o.cells y a z)
 have o2:OwnAt X pins H' Z C:=⟨⟨m,M.sameBut G J⟩,o.free,o.loc,o.above,o.cells,o.pins⟩;refine⟨m,M.sameBut G J,λh' hb=>?_⟩;exact⟨_,H',o2.go I2 hb,q⟩
section
variable{X:Cx}{xs caps:List Str}{cap:List Nat}{scope:Scope}{cl:List (Str×Addr)}
theorem Z0{x:Str}{px:Pos}(O:CompG X [x] caps cap scope cl):∀C fp s₀ H₀,PG (QJ X ([x]++caps) scope cl C fp s₀ H₀) (.Name x px) (QP 0):=λC fp s₀ H₀=>
 Qt (X:=QJ X ([x]++caps) scope cl C fp s₀ H₀) (i:=0) O.nd rfl (.inl (lookup_relabel_local (O.lx x (22:)))) (.inr (lookup_relabel_local (O.lx x (22:))))
theorem UK{x y:Str}{px py pos:Pos}{k:Nat}(O:CompG X [x,y] caps cap scope cl)(hc:X.calm=true):∀C fp s₀ H₀,PG (QJ X ([x,y]++caps) scope cl C fp s₀ H₀) (.Tuple [.Name x px,.Name y py] k pos) (Lp X.K 2 (Yd (QP 0) (Yd (QP 1) Vk))):=λC fp s₀ H₀=>
 Zs (X:=QJ X ([x,y]++caps) scope cl C fp s₀ H₀) hc (Qy (Qt (i:=0) O.nd rfl (.inl (lookup_relabel_local (O.lx x (22:)))) (.inr (lookup_relabel_local (O.lx x (22:)))))
  (Qy (Qt (i:=1) O.nd rfl (.inl (lookup_relabel_local (O.lx y (22:)))) (.inr (lookup_relabel_local (O.lx y (22:))))) Zg))
end
theorem Uu{k:NameKind}{y:Str}:∀{l:List (Str×NameKind)},l.lookup y=some k->(y,k)∈l
 | [],h=>by simp at h
 | (n,j)::r,h=>by
  cases G:y==n with
  | true=>
   simp only [List.lookup_cons,G]at h;have:y=n:=by simpa using G
   cases h;rw [this];exact List.mem_cons_self
  | false=>
   simp only [List.lookup_cons,G]at h;exact List.mem_cons_of_mem _ (Uu h)
theorem Z5{y:Str}{c:Addr}:∀{l:List (Str×Addr)},l.lookup y=some c->(y,c)∈l
 | [],h=>by simp at h
 | (n,j)::r,h=>by
  cases G:y==n with
  | true=>
   simp only [List.lookup_cons,G]at h;have:y=n:=by simpa using G
   cases h;rw [this];exact List.mem_cons_self
  | false=>
   simp only [List.lookup_cons,G]at h;exact List.mem_cons_of_mem _ (Z5 h)
theorem YK{y:Str}{c:Addr}:∀{l:List (Str×Addr)},(y,c)∈l->∃c',l.lookup y=some c'
 | [],h=>by cases h
 | (n,j)::r,h=>by
  cases G:y==n with
  | true=>exact⟨j,by simp only [List.lookup_cons,G]⟩
  | false=>
   simp only [List.lookup_cons,G];rcases List.mem_cons.mp h with z | z
   .have:y=n:=congrArg Prod.fst z;rw [this]at G;simp at G
   .exact YK z
theorem Ya{env:Env}{y:Str}(hf:env.scope.kind=.function)(hy:env.kindOf y=some .cell):∀{names:List (Str×NameKind)},names.lookup y=some .free->
 (names.map λ(n,k)=>if(48:)then(n,NameKind.cell)else(n,k)).lookup y=some .cell
 | [],h=>by simp at h
 | (n,k)::r,h=>by
  show List.lookup y ((if(48:)=true then(n,NameKind.cell)else(n,k))::_)=_;cases G:y==n with
  | true=>
   simp only [List.lookup_cons,G]at h;have e:y=n:=by simpa using G
   cases h;rw [<-e,hf,hy];simp
  | false=>
   simp only [List.lookup_cons,G]at h;have J:=Ya hf hy h;split
   .simp only [List.lookup_cons,G];exact J
   .simp only [List.lookup_cons,G];exact J
def Zd(names:List (Str×NameKind)):List Str:=names.filterMap λz=>if z.2==NameKind.free then some z.1 else none
theorem YU{env:Env}:∀(names:List (Str×NameKind))(caps:List Str)(cs:List Addr)(acc:List (Str×Addr)),Zd names=caps->caps.map (λy=>env.cells.lookup y)=cs.map some->
 (forIn names acc λ(x:Str×NameKind)(r:List (Str×Addr))=>(if(x.2==NameKind.free)=true then do let a <-cellOf env x.1;pure (ForInStep.yield ((x.1,a)::r))else pure (ForInStep.yield r):Sem (ForInStep (List (Str×Addr)))))=(pure ((caps.zip cs).reverse++acc):Sem (List (Str×Addr)))
 | [],caps,cs,acc,h1,h2=>by
  have:caps=[]:=h1.symm;subst this;simp
 | (n,k)::r,caps,cs,acc,h1,h2=>by
  rw [List.forIn_cons]
  by_cases G:(k==NameKind.free)=true
  .have L:caps=n::Zd r:=by
    rw [<-h1];unfold Zd;rw [List.filterMap_cons];simp only [G,if_true]
   subst L;cases cs with
   | nil=>simp at h2
   | cons c cs=>
    simp only [List.map_cons,List.cons.injEq]at h2;have J:cellOf env n=pure c:=by unfold cellOf;rw [h2.1]
    simp only [G,if_true,J,pure_bind];rw [YU r _ cs ((n,c)::acc) rfl h2.2];simp
  .have L:caps=Zd r:=by
    rw [<-h1];unfold Zd;rw [List.filterMap_cons];simp only [G]
    rfl
   subst L;simp only [G,if_false,pure_bind];exact YU r _ cs acc rfl h2
theorem Yf{env:Env}{scope:Scope}{caps:List Str}{cs:List Addr}(hf:Zd scope.names=caps)(hc:caps.map (λy=>env.cells.lookup y)=cs.map some):closureFor scope env=pure (caps.zip cs).reverse:=by
 have h:=YU (env:=env) scope.names caps cs [] hf hc;rw [List.append_nil]at h;unfold closureFor;simp only [bind_pure];exact h
theorem CompG.many{X:Cx}{xs caps:List Str}{cap:List Nat}{cs:List Addr}{scope:Scope}(hk:scope.kind=.function)(hf:X.env.scope.kind=.function)(hfr:Zd scope.names=caps)
 (hnc:∀z∈scope.names,z.2≠.cell) (hl:∀y∈scope.names,y.2=.local->scope.names.lookup y.1=some .local) (hlx:∀x∈xs,scope.names.lookup x=some .local) (hnd:(xs++caps).Nodup)
 (hfl:∀y∈caps,scope.names.lookup y=some .free) (hce:caps.map (λy=>X.env.scope.names.lookup y)=caps.map λ_=>some .cell) (hcs:caps.map (λy=>X.env.cells.lookup y)=cs.map some)
 (hN:cap.map (λj=>X.N[j]?)=caps.map some):CompG X xs caps cap scope (caps.zip cs).reverse:=by
 have ac:caps.length=cs.length:=by simpa using congrArg List.length hcs
 have U:∀(i:Nat)(y:Str),caps[i]?=some y->∃c,cs[i]?=some c/\X.env.cells.lookup y=some c:=λi y h=>by
  have e:=congrArg (λl=>l[i]?) hcs;simp only [List.getElem?_map,h]at e;cases q:cs[i]? with
  | none=>rw [q]at e;simp at e
  | some c=>rw [q]at e;exact⟨c,rfl,by simpa using e⟩
 refine⟨Yf hfr hcs,hnc,hk,hl,hlx,hnd,λy c h=>?_,λy h=>?_,?_,λi y h=>?_⟩
 .have L:=Z5 h;rw [List.mem_reverse]at L;obtain⟨i,hi,e⟩:=List.getElem_of_mem L;have aa:i<caps.length:=by rw [List.length_zip]at hi;lia
  have Y:i<cs.length:=by rw [List.length_zip]at hi;lia
  rw [List.getElem_zip]at e;obtain⟨c',e1,M⟩:=U i caps[i] (List.getElem?_eq_getElem aa);have e3:caps[i]=y:=congrArg Prod.fst e;have e4:cs[i]=c:=congrArg Prod.snd e;rw [List.getElem?_eq_getElem Y,e4]at e1;cases e1;rw [<-e3];exact M
 .have L:y∈caps:=by
   have Z:∀k:NameKind,(k=.cell\/k=.free)->(relabel scope X.env).names.lookup y=some k->y∈caps:=λk hk h=>by
    have h1:=Uu h;obtain⟨z,hz,e⟩:=List.mem_map.mp h1;obtain⟨n,kk⟩:=z;have G:kk=.free/\n=y:=by
     dsimp only at e;split at e
     .rename_i q;simp only [Bool.and_eq_true]at q;exact⟨by simpa using q.1.1,congrArg Prod.fst e⟩
     .have M:kk=k:=congrArg Prod.snd e;refine⟨?_,congrArg Prod.fst e⟩;rcases hk with z | z
      .exact absurd (M.trans z) (hnc _ hz)
      .exact M.trans z
    rw [<-hfr];refine List.mem_filterMap.mpr ⟨(n,kk),hz,?_⟩;rw [G.1,G.2];rfl
   rcases h with h | h
   .exact Z _ (.inl rfl) h
   .exact Z _ (.inr rfl) h
  obtain⟨i,hi,e⟩:=List.getElem_of_mem L;have Y:i<cs.length:=by lia
  refine YK (c:=cs[i]) ?_;rw [List.mem_reverse];have ab:i<(caps.zip cs).length:=by rw [List.length_zip];lia
  have:=List.getElem_mem ab;rw [List.getElem_zip,e]at this;exact this
 .have:=congrArg List.length hN
  simpa using this
 .have e:=congrArg (λl=>l[i]?) hN;simp only [List.getElem?_map,h]at e;have L:=List.mem_of_getElem? h;cases q:cap[i]? with
  | none=>rw [q]at e;simp at e
  | some j=>
   rw [q]at e;have J:X.env.scope.names.lookup y=some .cell:=by
    have M:=congrArg (λl=>l[i]?) hce
    simpa only [List.getElem?_map,h,Option.map_some,Option.some.injEq]using M
   exact⟨j,rfl,by simpa using e,J,Ya hf J (hfl y L)⟩
theorem Q7{J:It}{n N:Nat}{cs:St}{g:TG}{tt:TT}{te:TE}{H1:Hp}{acc:Addr}{Q:Hp->Prop}(Pv:Nat->List V->Hp->Prop)(h0:Pv 0 [] (upd H1 acc (.lst [])))
 (hstop:∀ys H,Pv N ys H->J.stop N H/\Q H)
 (hstep:∀i ys H,i<N->Pv i ys H->J.go i H/\∀x H3,J.yld i H x H3->∀as:St,as.length=n->g x (as++cs) H3 λσ4 H4=>(∃bs:St,bs.length=n/\σ4=bs++cs)/\tt σ4 H4 λok H5=>if ok=true then te σ4 H5 (Mi N Pv acc i (N-i))else ∃m',m'<N-i/\WX N Pv (i+1) m' H5):
 ∃W:Nat->Nat->Hp->Prop,(∃m,W 0 m (upd H1 acc (.lst [])))/\∀i m H2,W i m H2->
  (J.stop i H2/\Q H2)\/(J.go i H2/\∀x H3,J.yld i H2 x H3->∀as:St,as.length=n->g x (as++cs) H3 λσ4 H4=>(∃bs:St,bs.length=n/\σ4=bs++cs)/\tt σ4 H4 λok H5=>if ok=true then
   te σ4 H5 (45:)
   else ∃m',m'<m/\W (i+1) m' H5):=by
 refine⟨WX N Pv,⟨N-0,rfl,Nat.zero_le _,[],h0⟩,?_⟩;rintro i m H2 ⟨rfl,hi,ys,p⟩
 by_cases h:i<N
 .exact .inr (hstep i ys H2 h p)
 .have e:i=N:=by lia
  subst e;exact .inl (hstop ys H2 p)
abbrev JN(N:Nat)(Pv:Nat->List V->Hp->Prop)(acc:Addr)(i:Nat)(te:TE)(σ:St):Bool->Hp->Prop:=λok H5=>if ok=true then te σ H5 (Mi N Pv acc i (N-i))else ∃m',m'<N-i/\WX N Pv (i+1) m' H5
abbrev Z2(J:It)(n:Nat)(cs:St)(g:TG)(tt:TT)(te:TE)(H1:Hp)(acc:Addr)(Q:Hp->Prop):Prop:=
 ∃W:Nat->Nat->Hp->Prop,(∃m,W 0 m (upd H1 acc (.lst [])))/\∀i m H2,W i m H2->
  (J.stop i H2/\Q H2)\/(J.go i H2/\∀x H3,J.yld i H2 x H3->∀as:St,as.length=n->g x (as++cs) H3 λσ4 H4=>(∃bs:St,bs.length=n/\σ4=bs++cs)/\tt σ4 H4 λok H5=>if ok=true then
   te σ4 H5 (45:)
   else ∃m',m'<m/\W (i+1) m' H5)
section
variable{K:Fg}{a b acc:Addr}{xs zs:List V}{tt:TT}{te:TE}{cs:St}{H1:Hp}{Q:Hp->Prop}
theorem YB(Pv:Nat->List V->Hp->Prop)(h0:Pv 0 [] (upd H1 acc (.lst [])))(hl:∀i ys H,i<=xs.length->Pv i ys H->SqL K H a xs)
 (hs:∀i x ys H,i<xs.length->xs[i]?=some x->Pv i ys H->tt (some x::cs) H (JN xs.length Pv acc i te (some x::cs))) (hd:∀ys H,Pv xs.length ys H->Q H):Z2 (Itl K a) 1 cs (QP 0) tt te H1 acc Q:=by
 refine Q7 Pv h0 (λys H p=>⟨⟨xs,hl _ _ _ (5:) p,Nat.le_refl _⟩,hd ys H p⟩) λi ys H hi p=>⟨⟨xs,xs[i],hl _ _ _ (Nat.le_of_lt hi) p,List.getElem?_eq_getElem hi⟩,?_⟩;rintro x U ⟨rfl,L⟩ M G;obtain⟨J,rfl⟩: ∃J,M=[J]:=List.length_eq_one_iff.mp G;exact⟨⟨[some x],rfl,rfl⟩,hs i x ys _ hi (L xs (hl _ _ _ (Nat.le_of_lt hi) p)) p⟩
theorem Yn(Pv:Nat->List V->Hp->Prop)(h0:Pv 0 [] (upd H1 acc (.lst [])))(hl:∀i ys H,i<=xs.length->Pv i ys H->SqT K H a xs)
 (hs:∀i x ys H,i<xs.length->xs[i]?=some x->Pv i ys H->tt (some x::cs) H (JN xs.length Pv acc i te (some x::cs))) (hd:∀ys H,Pv xs.length ys H->Q H):Z2 (Itt K a) 1 cs (QP 0) tt te H1 acc Q:=by
 refine Q7 Pv h0 (λys H p=>⟨⟨xs,hl _ _ _ (5:) p,Nat.le_refl _⟩,hd ys H p⟩) λi ys H hi p=>⟨⟨xs,xs[i],hl _ _ _ (Nat.le_of_lt hi) p,List.getElem?_eq_getElem hi⟩,?_⟩;rintro x U ⟨rfl,L⟩ M G;obtain⟨J,rfl⟩: ∃J,M=[J]:=List.length_eq_one_iff.mp G;exact⟨⟨[some x],rfl,rfl⟩,hs i x ys _ hi (L xs (hl _ _ _ (Nat.le_of_lt hi) p)) p⟩
theorem Yk{lo:Int}{n:Nat}(Pv:Nat->List V->Hp->Prop)(h0:Pv 0 [] (upd H1 acc (.lst [])))
 (hs:∀i ys H,i<n->Pv i ys H->tt (some (.int (lo+i))::cs) H (JN n Pv acc i te (some (.int (lo+i))::cs))) (hd:∀ys H,Pv n ys H->Q H):Z2 (Itr lo n) 1 cs (QP 0) tt te H1 acc Q:=by
 refine Q7 Pv h0 (λys H p=>⟨Nat.le_refl _,hd ys H p⟩) λi ys H hi p=>⟨hi,?_⟩;rintro x M ⟨rfl,rfl⟩ L G;obtain⟨J,rfl⟩: ∃J,L=[J]:=List.length_eq_one_iff.mp G;exact⟨⟨[some _],rfl,rfl⟩,hs i ys _ hi p⟩
theorem UV{as:St}(h:as.length=2):∃a0 a1,as=[a0,a1]:=by
 match as,h with
 | [a0,a1],_=>exact⟨a0,a1,rfl⟩
theorem Y4(Pv:Nat->List V->Hp->Prop)(h0:Pv 0 [] (upd H1 acc (.lst [])))(hl:∀i ys H,i<=xs.length->Pv i ys H->SqL K H a xs)
 (hs:∀i x ys H,i<xs.length->xs[i]?=some x->Pv i ys H->∃p u v,x=.ref p/\SqT K H p [u,v]/\tt (some u::some v::cs) H (JN xs.length Pv acc i te (some u::some v::cs))) (hd:∀ys H,Pv xs.length ys H->Q H):Z2 (Itl K a) 2 cs (Lp K 2 (Yd (QP 0) (Yd (QP 1) Vk))) tt te H1 acc Q:=by
 refine Q7 Pv h0 (λys H p=>⟨⟨xs,hl _ _ _ (5:) p,Nat.le_refl _⟩,hd ys H p⟩) λi ys H hi p=>⟨⟨xs,xs[i],hl _ _ _ (Nat.le_of_lt hi) p,List.getElem?_eq_getElem hi⟩,?_⟩;rintro x M ⟨rfl,J⟩ U G;obtain⟨Y,Z,rfl⟩:=UV G;obtain⟨q,u,v,rfl,L,h⟩:=hs i x ys _ hi (J xs (hl _ _ _ (Nat.le_of_lt hi) p)) p;exact⟨q,[u,v],rfl,L,rfl,u,[v],rfl,v,[],rfl,rfl,⟨[some u,some v],rfl,rfl⟩,h⟩
theorem Pr(hlen:xs.length=zs.length)(Pv:Nat->List V->Hp->Prop)(h0:Pv 0 [] (upd H1 acc (.lst [])))(hl:∀i ys H,i<=xs.length->Pv i ys H->SqL K H a xs/\SqL K H b zs)
 (hs:∀i u v p ys H,i<xs.length->xs[i]?=some u->zs[i]?=some v->H p=none->Pv i ys H->tt (some u::some v::cs) (upd H p (.tup [u,v])) (JN xs.length Pv acc i te (some u::some v::cs))) (hd:∀ys H,Pv xs.length ys H->Q H):Z2 (Itz K a b xs zs) 2 cs (Lp K 2 (Yd (QP 0) (Yd (QP 1) Vk))) tt te H1 acc Q:=by
 refine Q7 (N:=xs.length) Pv h0 (λys H p=>?_) λi ys H hi p=>?_
 .obtain⟨G,J⟩:=hl _ _ _ (5:) p;exact⟨⟨G,J,.inl (5:)⟩,hd ys H p⟩
 .obtain⟨G,J⟩:=hl _ _ _ (Nat.le_of_lt hi) p;refine⟨⟨G,J,hi,by lia⟩,?_⟩;rintro x Z ⟨q,u,v,M,rfl,rfl,U,Y⟩ as L;obtain⟨a0,a1,rfl⟩:=UV L;exact(55:)
end
end L2
namespace L2
open PySem PySem.Spec PyProof.Rows
section
variable{κ:Type} [DecidableEq κ]
def ZG(kvs:List (κ×V))(k:κ):Option V:=(kvs.find? λkv=>decide (kv.1=k)).map (·.2)
def ZJ(kvs:List (κ×V))(k:κ)(v:V):List (κ×V):=
 if(kvs.any λkv=>decide (kv.1=k))=true then kvs.map (λkv=>if kv.1=k then(kv.1,v)else kv)else kvs++[(k,v)]
theorem Yv{p:κ×V}{r:List (κ×V)}{k:κ}(e:p.1=k):ZG (p::r) k=some p.2:=by simp [ZG,List.find?_cons,e]
theorem YA{p:κ×V}{r:List (κ×V)}{k:κ}(e:¬p.1=k):ZG (p::r) k=ZG r k:=by simp [ZG,List.find?_cons,e]
theorem JF(k:κ):∀kvs:List (κ×V),(kvs.any λkv=>decide (kv.1=k))=(ZG kvs k).isSome
 | []=>rfl
 | p::r=>by
  rw [List.any_cons]
  by_cases e:p.1=k
  .simp only [Yv e,decide_eq_true e,Bool.true_or,Option.isSome_some]
  .rw [YA e,decide_eq_false e,Bool.false_or];exact JF k r
theorem UJ(kvs:List (κ×V))(k:κ)(v:V):(ZJ kvs k v).length<=kvs.length+1:=by
 unfold ZJ;split
 .rw [List.length_map];lia
 .rw [List.length_append,List.length_cons,List.length_nil];lia
theorem M4{kvs:List (κ×V)}{k:κ}(v:V)(h:ZG kvs k=none):ZJ kvs k v=kvs++[(k,v)]:=by
 unfold ZJ;rw [JF,h];exact if_neg (12:)
theorem RelO.isSome_eq{o:Option V}{u:Option Value}(r:RelO o u):o.isSome=u.isSome:=by
 cases o with
 | none=>cases u with
  | none=>rfl
  | some _=>exact(show False from r).elim
 | some _=>cases u with
  | none=>exact(show False from r).elim
  | some _=>rfl
theorem RelO.getD{o:Option V}{u:Option Value}{d:V}{d':Value}(r:RelO o u)(rd:RelV d d'):RelV (o.getD d) (u.getD d'):=by
 cases o with
 | none=>cases u with
  | none=>exact rd
  | some _=>exact(show False from r).elim
 | some _=>cases u with
  | none=>exact(show False from r).elim
  | some _=>exact r
theorem KV.val{kvs:List (κ×V)}{vs:List (κ×Value)}(r:KV kvs vs)(k:κ):RelO (ZG kvs k) (valueAt vs k):=by
 unfold KV at r
 induction r with
 | nil=>exact True.intro
 | @cons p q ps G h t L=>
  obtain⟨h1,h2⟩:=h
  by_cases e:p.1=k
  .have J:q.1=k:=h1.symm.trans e;have b:valueAt (q::G) k=some q.2:=by simp [valueAt,List.find?_cons,J]
   rw [Yv e,b];exact h2
  .have J:¬q.1=k:=λz=>e (h1.trans z);have b:valueAt (q::G) k=valueAt G k:=by simp [valueAt,List.find?_cons,J]
   rw [YA e,b];exact L
theorem KV.any{kvs:List (κ×V)}{vs:List (κ×Value)}(r:KV kvs vs)(k:κ):(kvs.any λkv=>decide (kv.1=k))=vs.any λkv=>decide (kv.1=k):=by
 unfold KV at r
 induction r with
 | nil=>rfl
 | cons h t G=>rw [List.any_cons,List.any_cons,G,h.1]
theorem KV.repl{kvs:List (κ×V)}{vs:List (κ×Value)}(r:KV kvs vs)(k:κ){y:V}{u:Value}(ry:RelV y u):
 KV (kvs.map λkv=>if kv.1=k then(kv.1,y)else kv) (vs.map λkv=>if kv.1=k then(kv.1,u)else kv):=by
 unfold KV at r ⊢
 induction r with
 | nil=>exact .nil
 | @cons p q ps J h t G=>
  rw [List.map_cons,List.map_cons];refine .cons ?_ G;obtain⟨h1,h2⟩:=h
  by_cases e:p.1=k
  .rw [if_pos e,if_pos (h1.symm.trans e)];exact⟨h1,ry⟩
  .rw [if_neg e,if_neg (λz=>e (h1.trans z))];exact⟨h1,h2⟩
theorem KV.put{kvs:List (κ×V)}{vs:List (κ×Value)}(r:KV kvs vs)(k:κ){y:V}{u:Value}(ry:RelV y u):KV (ZJ kvs k y) (stored vs k u):=by
 unfold ZJ stored;rw [r.any k]
 by_cases e:(vs.any λkv=>decide (kv.1=k))=true
 .rw [if_pos e,if_pos e];exact r.repl k ry
 .rw [if_neg e,if_neg e];exact Paired.snoc r ⟨rfl,ry⟩
theorem KV.keys{kvs:List (κ×V)}{vs:List (κ×Value)}(r:KV kvs vs):kvs.map (·.1)=vs.map (·.1):=by
 unfold KV at r
 induction r with
 | nil=>rfl
 | cons h t G=>rw [List.map_cons,List.map_cons,G,h.1]
theorem KV.length{kvs:List (κ×V)}{vs:List (κ×Value)}(r:KV kvs vs):kvs.length=vs.length:=Paired.length r
end
theorem Jw{P:Program}{w:World}{k:Key}{u:Value}(r:RelV (kV k) u):(Qx P w).is k u=true:=by
 cases k with
 | inl i=>obtain⟨t,e⟩:=(show ∃t,u=Value.int i t from r);subst e;exact WC P w i t
 | inr x=>obtain⟨t,e⟩:=(show ∃t,u=Value.str x t from r);subst e;exact WU P w x t
theorem JY{P:Program}{w:World}:∀{ks:List Key}{us:List Value},Vals (ks.map kV) us->ItemsAre (Qx P w) ks us
 | [],_,r=>by rw [List.map_nil]at r;cases r;exact .nil
 | k::ks,_,r=>by
  rw [List.map_cons]at r;cases r with
  | cons h t=>exact .cons (Jw h) (JY t)
abbrev KT(H:Hp):List (List Key×V)->List (List Key×Addr×Value)->Prop:=Paired λp q=>p.1=q.1/\H q.2.1=some (.tup (p.1.map kV))/\RelV p.2 q.2.2
theorem KT.val{H:Hp}{kvs:List (List Key×V)}{xs:List (List Key×Addr×Value)}(r:KT H kvs xs)(k:List Key):RelO (ZG kvs k) ((atKey xs k).map (·.2)):=by
 induction r with
 | nil=>exact True.intro
 | @cons p q ps G h t L=>
  obtain⟨h1,_,h2⟩:=h
  by_cases e:p.1=k
  .have J:q.1=k:=h1.symm.trans e;have b:atKey (q::G) k=some q.2:=by simp [atKey,List.find?_cons,J]
   rw [Yv e,b];exact h2
  .have J:¬q.1=k:=λz=>e (h1.trans z);have b:atKey (q::G) k=atKey G k:=by simp [atKey,List.find?_cons,J]
   rw [YA e,b];exact L
theorem KT.repl{H:Hp}{kvs:List (List Key×V)}{xs:List (List Key×Addr×Value)}(r:KT H kvs xs)(k:List Key){y:V}{u:Value}(ry:RelV y u):
 KT H (kvs.map λkv=>if kv.1=k then(kv.1,y)else kv) (xs.map (putAt k u)):=by
 induction r with
 | nil=>exact .nil
 | @cons p q ps L h t G=>
  rw [List.map_cons,List.map_cons];refine .cons ?_ G;obtain⟨h1,h2,J⟩:=h;unfold putAt
  by_cases e:p.1=k
  .rw [if_pos e,if_pos (h1.symm.trans e)];exact⟨h1,h2,ry⟩
  .rw [if_neg e,if_neg (λz=>e (h1.trans z))];exact⟨h1,h2,J⟩
theorem KT.put{H:Hp}{kvs:List (List Key×V)}{xs:List (List Key×Addr×Value)}(r:KT H kvs xs)(k:List Key){b:Addr}{y:V}{u:Value}(hb:H b=some (.tup (k.map kV)))(ry:RelV y u):
 KT H (ZJ kvs k y) (storedH xs k b u):=by
 have e:(kvs.any λkv=>decide (kv.1=k))=(atKey xs k).isSome:=by
  rw [JF,(r.val k).isSome_eq,Option.isSome_map]
 unfold ZJ storedH;rw [e]
 by_cases q:(atKey xs k).isSome=true
 .rw [if_pos q,if_pos q];exact r.repl k ry
 .rw [if_neg q,if_neg q];exact Paired.snoc r ⟨rfl,hb,ry⟩
theorem KT.keeps{H H':Hp}{kvs:List (List Key×V)}{xs:List (List Key×Addr×Value)}(r:KT H kvs xs)(ht:∀b ys,H b=some (.tup ys)->H' b=some (.tup ys)):KT H' kvs xs:=
 Paired.mapP r λ_ _ z=>⟨z.1,ht _ _ z.2.1,z.2.2⟩
section
variable{P:Program}{w:World}{H:Hp}{h:Heap}{a:Addr}
theorem OV{u:HO}(ok:HOk P w H h)(e:Rd H a u):ObjOk P w H h a u:=e.ok ok
theorem J5{kvs:List (Key×V)}(ok:HOk P w H h)(e:Rd H a (.dK kvs)):kvs.length<=sizeLine/\(a==sysModules)=false/\∃vs,KV kvs vs/\h.DictOf (Qx P w) a vs:=
 show ObjOk P w H h a (.dK kvs)from OV ok e
theorem Mh{kvs:List (Key×V)}(ok:HOk P w H h)(e:H a=some (.dK kvs)):kvs.length<=sizeLine/\(a==sysModules)=false/\∃vs,KV kvs vs/\h.DictOf (Qx P w) a vs:=J5 ok (.inl e)
theorem Jb{ks:List Key}(ok:HOk P w H h)(e:H a=some (.tup (ks.map kV))):(tupleKind (Qx P w)).is h ks a:=by
 obtain⟨_,its,r,o,h1,h2,n,G⟩:=(show ObjOk P w H h a (.tup (ks.map kV))from ok a _ e);exact⟨o,its.toArray,n,h1,h2,G,by simpa using JY r⟩
theorem Xl{kvs:List (List Key×V)}(ok:HOk P w H h)(e:Rd H a (.dT kvs)):kvs.length<=sizeLine/\(a==sysModules)=false/\
 ∃xs,KT H kvs xs/\h.DictOfH (tupleKind (Qx P w)) a xs:=by
 obtain⟨z,y,xs,r,o,es,J,h1,h2,L,M,U⟩:=(show ObjOk P w H h a (.dT kvs)from OV ok e);refine⟨z,y,xs,r,o,es,J,h1,h2,L,M,λx hx=>?_,U⟩;have all:∀{l:List (List Key×V)}{m:List (List Key×Addr×Value)},KT H l m->∀x∈m,(tupleKind (Qx P w)).is h x.1 x.2.1:=by
  intro l m q
  induction q with
  | nil=>intro x hx;exact nomatch hx
  | @cons p q ps Z G t Y=>
   intro x hx;rcases List.mem_cons.mp hx with e | hx
   .subst e;exact Jb ok (by rw [<-G.1];exact G.2.1)
   .exact Y x hx
 exact all r x hx
theorem SG{kvs:List (List Key×V)}(ok:HOk P w H h)(e:H a=some (.dT kvs)):kvs.length<=sizeLine/\(a==sysModules)=false/\
 ∃xs,KT H kvs xs/\h.DictOfH (tupleKind (Qx P w)) a xs:=Xl ok (.inl e)
end
def DGet(H:Hp)(a:Addr)(y:V)(r:Option V):Prop:=
 (∃kvs k,Rd H a (.dK kvs)/\y=kV k/\r=ZG kvs k)\/∃kvs k b,Rd H a (.dT kvs)/\y=.ref b/\H b=some (.tup (k.map kV))/\r=ZG kvs k
def DPut(H:Hp)(a:Addr)(y v:V)(H':Hp):Prop:=
 (∃kvs k,H a=some (.dK kvs)/\y=kV k/\kvs.length<sizeLine/\H'=upd H a (.dK (ZJ kvs k v))) \/
 ∃kvs k b,H a=some (.dT kvs)/\y=.ref b/\H b=some (.tup (k.map kV))/\kvs.length<sizeLine/\H'=upd H a (.dT (ZJ kvs k v))
theorem DGet.k{H:Hp}{a:Addr}{kvs:List (Key×V)}{k:Key}(e:H a=some (.dK kvs)):DGet H a (kV k) (ZG kvs k):=.inl ⟨kvs,k,.inl e,rfl,rfl⟩
theorem DPut.k{H:Hp}{a:Addr}{kvs:List (Key×V)}{k:Key}{v:V}(e:H a=some (.dK kvs))(hl:kvs.length<sizeLine):DPut H a (kV k) v (upd H a (.dK (ZJ kvs k v))):=.inl ⟨kvs,k,e,rfl,hl,rfl⟩
section
variable{X:Cx}{pins:List (8:)}{σ:St}{H:Hp}{s:Shared}{a:Addr}{y v:V}{u r:Value}{o:Option V}{A:Around}{E:Value->Shared->Prop}
theorem Inv.big(I:Inv X pins σ H s):sysModules<s.heap.objs.size:=by
 have h:mainGlobals<s.heap.objs.size:=(I.mod.glob.keeps I.bk).lt;exact Nat.lt_trans (12:) h
theorem Ll{Q:Value->Shared->Prop}(hu:A.units+1<cLine)(I:Inv X pins σ H s)(g:DGet H a y (some v))(ry:RelV y u)(h:∀w' s',Inv X pins σ H s'->RelV v w'->Q w' s'):
 wpAny (4:) A (getItem (.ref a) u) Q E s:=by
 rcases g with⟨kvs,k,e,L,l⟩ | ⟨kvs,k,b,e,L,Z,l⟩
 .subst L;obtain⟨z,hd,vs,G,M⟩:=J5 I.hok e;obtain⟨w',U,J⟩:=RelO.some_of (v:=v) (o:=valueAt vs k) (by rw [l];exact G.val k);exact wpAny_getItem_of (Jw ry) M.mapOf U (h w' _ (I.tok _) J)
 .subst L;cases (show u=Value.ref b from ry);obtain⟨z,hd,xs,G,M⟩:=Xl I.hok e;obtain⟨w',U,J⟩:=RelO.some_of (v:=v) (o:=(atKey xs k).map (·.2)) (by rw [l];exact G.val k);obtain⟨p,hp,Y⟩:=Option.map_eq_some_iff.mp U;refine wpAny_getItem_heap (tupleKind_room_in1 hu) (Jb I.hok Z) M hp ?_;rw [Y];exact h w' _ (I.tok _) J
theorem X7{h':Heap}{t':Nat}{ob:HO}(I:Inv X pins σ H s)(mu:Mut (H a))(hs:Heap.SameBut a s.heap h')(he:∃q,h'.get? a=some q)(new:ObjOk X.prog X.w (upd H a ob) h' a ob):
 Inv X pins σ (upd H a ob) { s with heap:=h',toks:=t' }:=
 I.write (x:=a) (e:=a) mu (.inl rfl) (λb q G z=>(hs.2 b G).trans z) he new
theorem VR{P:Program}{w:World}{H':Hp}{h':Heap}{kvs:List (Key×V)}{vs:List (Key×Value)}(z:kvs.length<=sizeLine)(hd:(a==sysModules)=false)(rel:KV kvs vs)(dd:h'.DictOf (Qx P w) a vs):
 ObjOk P w H' h' a (.dK kvs):=⟨z,hd,vs,rel,dd⟩
theorem Lh{H':Hp}{Q:Unit->Shared->Prop}(hu:A.units+1<cLine)(I:Inv X pins σ H s)(g:DPut H a y v H')(ry:RelV y u)(rv:RelV v r)(h:∀s',Inv X pins σ H' s'->Q () s'):
 wpAny (4:) A (setItem (.ref a) u r) Q E s:=by
 rcases g with⟨kvs,k,e,M,l,U⟩ | ⟨kvs,k,b,e,M,eb,l,U⟩
 .subst M U;obtain⟨z,Y,vs,G,Z⟩:=Mh I.hok e;have hz:vs.length<=sizeLine:=by rw [<-G.length];exact z
  have hl:(ZJ kvs k v).length<=sizeLine:=by have:=UJ kvs k v;lia
  refine wpAny_setItem_pairs (hsz:=hz) (Jw ry) Z λh' J hs=>h _ ?_;have he:∃q,h'.get? a=some q:=let⟨q,_,_,L,_⟩:=J;⟨q,L⟩
  exact X7 I (by rw [e];exact True.intro) hs he (VR hl Y (G.put k rv) J)
 .subst M U;cases (show u=Value.ref b from ry);obtain⟨z,Y,xs,G,Z⟩:=SG I.hok e;have hz:xs.length<=sizeLine:=by rw [<-Paired.length G];exact z
  have hl:(ZJ kvs k v).length<=sizeLine:=by have:=UJ kvs k v;lia
  refine wpAny_setItem_heap (hsz:=hz) (tupleKind_room_in1 hu) (Jb I.hok eb) Z λh' J hs=>h _ ?_;obtain⟨q,es,ep,L,h2,h3,h4,_,h5⟩:=J;refine X7 I (by rw [e];exact True.intro) hs ⟨q,L⟩ ⟨hl,Y,_,(G.put k eb rv).keeps λc ys ec=>?_,q,es,ep,L,h2,h3,h4,h5⟩;rw [Qh (Q3 ec e (46:))];exact ec
end
section
variable{X:Cx}{pins:List (8:)}{σ:St}{H:Hp}{s:Shared}{a:Addr}{kvs:List (Key×V)}{k:Key}{u:Value}{A:Around}{E:Value->Shared->Prop}
end
def Rt(i:Expr):Prop:=∀ov iv,subscripted i false ov iv=operate [ov,iv] (getItem ov iv)
theorem Ol{prog:Program}{w:World}{A:Around}{E:Value->Shared->Prop}{s:Shared}{env:Env}{value slice:Expr}{pos:Pos}{T id:String}{Q:Value->Shared->Prop}
 (hl:typeLookup (.type T) "__getitem__"=pure (some (.builtin id))) (hs:Rt slice)
 (h:wpAny (15:) A (eval value env) (λo s₁=>wpAny (15:) A (eval slice env) (λi s₂=>s₂.TypeIs o T/\wpAny (15:) A (getItem o i) Q E s₂) E s₁) E s):
 wpAny (15:) A (eval (.Subscript value slice pos) env) Q E s:=by
 refine Subscript_ (wpAny_mono h (λo s₁ M=>wpAny_mono M (λi s₂ G=>?_) λ_ _ x=>x) λ_ _ x=>x);obtain⟨J,G⟩:=G;unfold subscriptTail;refine wpAny_bind ?_;rw [getitemInPython_of_ne J.not_modules];refine wpAny_bind (wpAny_specialOf J hl ?_);have fin:wpAny (15:) A (subscripted slice false o i) (λr L=>wpAny (15:) A (letTemporaryGo value o r>>=λ_=>pure r) Q E L) E s₂:=by
  rw [hs o i];exact wpAny_operating (wpAny_mono G (λr L U=>wpAny_bind (wpAny_letTemporaryGo (wpAny_pure U))) λ_ _ x=>x)
 first
  | exact wpAny_pure (wpAny_bind fin)
  | exact wpAny_bind (wpAny_pure (wpAny_bind fin))
  | exact wpAny_bind fin
theorem Wv{X:Cx}{pins:List (8:)}{σ:St}{H:Hp}{s:Shared}{a:Addr}{y:V}{o:Option V}(I:Inv X pins σ H s)(g:DGet H a y o):s.TypeIs (.ref a) "dict":=by
 rcases g with⟨kvs,k,e,_,_⟩ | ⟨kvs,k,b,e,_,_,_⟩
 .obtain⟨_,_,vs,_,G⟩:=J5 I.hok e;exact G.typeIs
 .obtain⟨_,_,xs,_,G⟩:=Xl I.hok e;exact G.typeIs
def Sl(td ty:TE):TE:=λσ H Q=>td σ H λx H1=>ty σ H1 λy H2=>∃a v,x=.ref a/\DGet H2 a y (some v)/\Q v H2
def R9(td ty tv:TE):TS:=λD σ H=>tv σ H λv H1=>td σ H1 λx H2=>ty σ H2 λy H3=>∃a H4,x=.ref a/\DPut H3 a y v H4/\D.nx σ H4
section
variable{X:Cx}{o i e value:Expr}{pos pos' tpos:Pos}{td ty tv:TE}
theorem GB(hu:X.A.units+1<cLine)(ho:PE X o td)(hi:PE X i ty)(hs:Rt i):PE X (.Subscript o i pos) (Sl td ty):=by
 intro pins s σ H Q I h;refine Ol PySem.F.slot_dict_getitem.lookup hs (thn (ho pins s σ H _ I h) λu L ⟨x,H1,M,U,Y⟩=>thn (hi pins L σ H1 _ M Y) λiv s2 ⟨y,H2,G,Z,a,v,ex,g,q2⟩=>?_);subst ex;obtain rfl:u=Value.ref a:=U;exact⟨Wv G g,Ll hu G g Z λw' s3 I3 J=>⟨v,H2,I3,J,q2⟩⟩
theorem Oe(hu:X.A.units+1<cLine)(ho:PE X o td)(hi:PE X i ty)(hv:PE X value tv)(hs:swapsWith value (some (.Subscript o i pos')) pos.line X.env=pure false):
 PS X (.Assign [.Subscript o i pos'] value pos) (R9 td ty tv):=by
 intro pins s σ H D I h;refine wpAny_Assign_Subscript (thn (hv pins s σ H _ I h) λr G ⟨v,H1,J,L,M⟩=>thn (ho pins G σ H1 _ J M) λu U ⟨x,H2,Y,Z,q2⟩=>thn (hi pins U σ H2 _ Y q2) λiv s3 ⟨y,H3,I3,ry,a,H4,ex,g,q3⟩=>?_) hs;subst ex;obtain rfl:u=Value.ref a:=Z;exact Lh hu I3 g ry L λs4 I4=>⟨σ,H4,I4,q3⟩
end
theorem LA{P:Program}{w:World}{H:Hp}(h:Heap)(hb:sysModules<h.objs.size):ObjOk P w H (h.push { cls:=.type "dict",data:=.dict #[] }) h.objs.size (.dK []):=
 ⟨Nat.zero_le _,beq_eq_false_iff_ne.mpr (Ne.symm (Nat.ne_of_lt hb)),[],.nil,Heap.DictOf.new h⟩
def Jg:TE:=λ_ H Q=>∀p,H p=none->Q (.ref p) (upd H p (.dK []))
section
variable{X:Cx}{pos:Pos}
theorem Wn:PE X (.Dict [] [] pos) Jg:=λpins s σ H Q I h=>
 wpAny_Dict_empty ⟨.ref s.heap.objs.size,_,I.laid (a:=s.heap.objs.size) (o:=.dK []) (t':=s.toks) (λ_ _ q=>Heap.get?_push_of_some _ q) (5:) (LA s.heap I.big),rfl,h _ (I.hok.fresh (5:))⟩
end
structure M1(X:Cx)(o:Expr)(m:Str)(apos:Pos)(e:Expr)(cpos:Pos):Prop where
 base:attributeBase o m X.env (eval o X.env)=eval o X.env
 few:((backTo cpos (starEach [e] X.env)).all (λx=>!x.1)&&(backToKw cpos (keywordEach [] X.env)).all (λx=>x.1.isSome)
  &&decide (([e]:List Expr).length+([]:List Keyword).length+(if([]:List Keyword).isEmpty then 0 else 1)<30))=true
 line:(apos.endLine==cpos.line)=true
 trees:backTo cpos (starEach [e] X.env)=[(false,eval e X.env)]
structure M2(X:Cx)(o:Expr)(m:Str)(apos:Pos)(e f:Expr)(cpos:Pos):Prop where
 base:attributeBase o m X.env (eval o X.env)=eval o X.env
 few:((backTo cpos (starEach [e,f] X.env)).all (λx=>!x.1)&&(backToKw cpos (keywordEach [] X.env)).all (λx=>x.1.isSome)
  &&decide (([e,f]:List Expr).length+([]:List Keyword).length+(if([]:List Keyword).isEmpty then 0 else 1)<30))=true
 line:(apos.endLine==cpos.line)=true
 trees:backTo cpos (starEach [e,f] X.env)=[(false,eval e X.env),(false,eval f X.env)]
def IsD(H:Hp)(a:Addr):Prop:=(∃kvs,Rd H a (.dK kvs))\/∃kvs,Rd H a (.dT kvs)
theorem Nk{X:Cx}{pins:List (8:)}{σ:St}{H:Hp}{s:Shared}{a:Addr}(I:Inv X pins σ H s)(d:IsD H a):
 s.TypeIs (.ref a) "dict"/\ (∀b,Value.ref a=.ref b->∃ob,s.heap.get? b=some ob/\ob.dict=none)/\(a==sysModules)=false:=by
 rcases d with⟨kvs,e⟩ | ⟨kvs,e⟩
 .obtain⟨_,J,vs,_,G⟩:=J5 I.hok e;refine⟨G.typeIs,λb q=>?_,J⟩;cases q;obtain⟨ob,_,_,h1,h2,_⟩:=G;exact⟨ob,h1,h2.2.1⟩
 .obtain⟨_,J,xs,_,G⟩:=Xl I.hok e;refine⟨G.typeIs,λb q=>?_,J⟩;cases q;obtain⟨ob,_,_,h1,h2,_⟩:=G;exact⟨ob,h1,h2.2.1⟩
section
variable{X:Cx}{pins:List (8:)}{σ:St}{H:Hp}{s:Shared}{a:Addr}{y d:V}{u r:Value}{o:Option V}{A:Around}{E:Value->Shared->Prop}
theorem PL{Q:Value->Shared->Prop}(hu:A.units+1<cLine)(I:Inv X pins σ H s)(g:DGet H a y o)(ry:RelV y u)(h:∀w' s',Inv X pins σ H s'->RelV (o.getD .non) w'->Q w' s'):
 wpAny (4:) A (call (.builtin "dict.get") [.ref a,u]) Q E s:=by
 rcases g with⟨kvs,k,e,L,l⟩ | ⟨kvs,k,b,e,L,U,l⟩
 .subst L;obtain⟨z,M,vs,G,J⟩:=J5 I.hok e;refine call_meetsIn PySem.F.slot_dict_get J.typeIs PySem.F.entry_dict_get (PySem.F.args_dict_get_2 _ _) (meets_dict_get (Qx X.prog X.w) a (Jw ry) M) ⟨_,J.mapOf,h _ _ (I.tok _) ?_⟩;rw [l];exact(G.val k).getD rfl
 .subst L;cases (show u=Value.ref b from ry);obtain⟨z,M,xs,G,J⟩:=Xl I.hok e;refine call_meetsIn PySem.F.slot_dict_get J.typeIs PySem.F.entry_dict_get (PySem.F.args_dict_get_2 _ _) (meetsH_dict_get (tupleKind (Qx X.prog X.w)) a b M) ⟨tupleKind_room_in1 hu,k,xs,Jb I.hok U,J,h _ _ (I.tok _) ?_⟩;rw [l];exact(G.val k).getD rfl
theorem Pf{Q:Value->Shared->Prop}(hu:A.units+1<cLine)(I:Inv X pins σ H s)(g:DGet H a y o)(ry:RelV y u)(rd:RelV d r)(h:∀w' s',Inv X pins σ H s'->RelV (o.getD d) w'->Q w' s'):
 wpAny (4:) A (call (.builtin "dict.get") [.ref a,u,r]) Q E s:=by
 rcases g with⟨kvs,k,e,L,l⟩ | ⟨kvs,k,b,e,L,U,l⟩
 .subst L;obtain⟨z,M,vs,G,J⟩:=J5 I.hok e;refine call_meetsIn PySem.F.slot_dict_get J.typeIs PySem.F.entry_dict_get (PySem.F.args_dict_get_3 _ _ _) (meets_dict_get_default (Qx X.prog X.w) a (Jw ry) M r) ⟨_,J.mapOf,h _ _ (I.tok _) ?_⟩;rw [l];exact(G.val k).getD rd
 .subst L;cases (show u=Value.ref b from ry);obtain⟨z,M,xs,G,J⟩:=Xl I.hok e;refine call_meetsIn PySem.F.slot_dict_get J.typeIs PySem.F.entry_dict_get (PySem.F.args_dict_get_3 _ _ _) (meetsH_dict_get_default (tupleKind (Qx X.prog X.w)) a b M r) ⟨tupleKind_room_in1 hu,k,xs,Jb I.hok U,J,h _ _ (I.tok _) ?_⟩;rw [l];exact(G.val k).getD rd
end
def PV(td ty:TE):TE:=λσ H Q=>td σ H λx H1=>∃a,x=.ref a/\IsD H1 a/\ty σ H1 λy H2=>∃o,DGet H2 a y o/\Q (o.getD .non) H2
def PN(td ty tx:TE):TE:=λσ H Q=>td σ H λx H1=>∃a,x=.ref a/\IsD H1 a/\ty σ H1 λy H2=>tx σ H2 λz H3=>∃o,DGet H3 a y o/\Q (o.getD z) H3
section
variable{X:Cx}{o e f:Expr}{apos cpos:Pos}{td ty tx:TE}
theorem MU(hu:X.A.units+1<cLine)(ho:PE X o td)(he:PE X e ty)(m:M1 X o "get" apos e cpos):PE X (.Call (.Attribute o "get" apos) [e] [] cpos) (PV td ty):=by
 intro pins s σ H Q I h;refine wpAny_Call_method m.base m.few m.line PySem.F.plainAttrs_dict PySem.F.slot_dict_get PySem.F.type_dict_get (thn (ho pins s σ H _ I h) λu L ⟨x,H1,G,M,a,ex,d,U⟩=>?_);subst ex;obtain rfl:u=Value.ref a:=M;obtain⟨Y,Z,_⟩:=Nk G d;refine⟨Y,Z,?_⟩;rw [m.trees];refine Calls.callWith_builtin rfl (Calls.evalArgs_plain (Calls.spliced_cons (thn (he pins L σ H1 _ G U) λiv s2 ⟨y,H2,I2,ry,ov,g,q2⟩=>Calls.spliced_nil ?_)));exact PL hu I2 g ry λw' s3 I3 J=>⟨_,H2,I3,J,q2⟩
theorem WZ(hu:X.A.units+1<cLine)(ho:PE X o td)(he:PE X e ty)(hf:PE X f tx)(m:M2 X o "get" apos e f cpos):PE X (.Call (.Attribute o "get" apos) [e,f] [] cpos) (PN td ty tx):=by
 intro pins s σ H Q I h;refine wpAny_Call_method m.base m.few m.line PySem.F.plainAttrs_dict PySem.F.slot_dict_get PySem.F.type_dict_get (thn (ho pins s σ H _ I h) λu L ⟨x,H1,G,M,a,ex,d,U⟩=>?_);subst ex;obtain rfl:u=Value.ref a:=M;obtain⟨Y,Z,_⟩:=Nk G d;refine⟨Y,Z,?_⟩;rw [m.trees];refine Calls.callWith_builtin rfl (Calls.evalArgs_plain (Calls.spliced_cons (thn (he pins L σ H1 _ G U) λiv s2 ⟨y,H2,I2,ry,q2⟩=>
  Calls.spliced_cons (thn (hf pins s2 σ H2 _ I2 q2) λfv s3 ⟨z,H3,I3,rz,ov,g,q3⟩=>Calls.spliced_nil ?_))))
 exact Pf hu I3 g ry rz λw' s4 I4 J=>⟨_,H3,I4,J,q3⟩
end
section
variable{X:Cx}{pins:List (8:)}{σ:St}{H:Hp}{s:Shared}{a:Addr}{kvs:List (Key×V)}{A:Around}{E:Value->Shared->Prop}
end
section
variable{X:Cx}{pins:List (8:)}{σ:St}{H:Hp}{s:Shared}{a:Addr}{y:V}{u:Value}{A:Around}{E:Value->Shared->Prop}
end
end L2
namespace Srt
open PySem PySem.W PyProof.Rows
variable{α β:Type}{O:KeyOrd}{key:Nat->O.α}{n:Nat}
def Ok(O:KeyOrd)(key:Nat->O.α)(n:Nat)(Q:α->Prop):KasT α->Prop
 | .ret a=>Q a
 | .ask i j k=>i<n/\j<n/\Ok O key n Q (k (O.blt (key i) (key j)))
theorem Ok.bind{t:KasT α}{f:α->KasT β}{Q:β->Prop}:Ok O key n (λa=>Ok O key n Q (f a)) t->Ok O key n Q (t.bind f):=by
 induction t with
 | ret a=>exact id
 | ask i j k G=>exact λh=>⟨h.1,h.2.1,G _ h.2.2⟩
theorem Ok.wp{cmp:Nat->Nat->(Bool->Shared->Prop)->Shared->Prop}{s:Shared}(hc:∀i j C,i<n->j<n->C (O.blt (key i) (key j)) s->cmp i j C s){G:α->Shared->Prop}{Q:α->Prop}(hq:∀a,Q a->G a s){t:KasT α}:Ok O key n Q t->t.kasWp cmp G s:=by
 induction t with
 | ret a=>exact hq a
 | ask i j k J=>exact λh=>hc i j _ h.1 h.2.1 (J _ h.2.2)
def Pm(n:Nat)(p:Array Nat):Prop:=p.toList.Perm (List.range n)
theorem Pm.size{p:Array Nat}(h:Pm n p):p.size=n:=by
 have:=h.length_eq
 simpa using this
theorem Pm.lt{p:Array Nat}(h:Pm n p){i:Nat}(hi:i<n):p.getD i 0<n:=by
 have G:i<p.size:=by rw [h.size];exact hi
 have e:p.getD i 0=p[i]:=by simp [Array.getD,G]
 rw [e];have:p[i]∈p.toList:=by simp
 exact List.mem_range.mp (h.mem_iff.mp this)
theorem Pm.of{p q:Array Nat}(h:Pm n p)(e:q.Perm p):Pm n q:=(Array.perm_iff_toList_perm.mp e).trans h
variable(key) in
def kk(p:Array Nat)(i:Nat):O.α:=key (p.getD i 0)
theorem Yt{p q:Array Nat}{i j:Nat}(h:p[i]?=q[j]?):kk key p i=kk key q j:=by
 unfold kk;rw [Array.getD_eq_getD_getElem?,Array.getD_eq_getD_getElem?,h]
variable(key) in
def Up(p:Array Nat)(k:Nat):Prop:=∀i j,i<=j->j<k->O.kle (kk key p i) (kk key p j)
variable(key) in
def GO(p:Array Nat)(k:Nat):Prop:=∀i j,i<=j->j<k->O.kle (kk key p j) (kk key p i)
theorem Vj{p:Array Nat}{i j:Nat}(hj:j<=p.size)(k:Nat):kk key (kas_rev p i j) k=if i<=k/\k<j then kk key p (i+j-1-k)else kk key p k:=by
 have e:=getElem?_mirror_all (xs:=p) (i:=i) hj k;unfold kas_rev
 by_cases h:i<=k/\k<j
 .rw [if_pos h]at e ⊢;exact Yt e
 .rw [if_neg h]at e ⊢;exact Yt e
theorem U5{p:Array Nat}{i j:Nat}(hj:j<=p.size)(heq:∀k,i<=k->k<j->kk key p k=kk key p (j-1))(k:Nat):kk key (kas_rev p i j) k=kk key p k:=by
 rw [Vj hj]
 by_cases h:i<=k/\k<j
 .rw [if_pos h,heq _ (3:) (3:),heq k h.1 h.2]
 .rw [if_neg h]
theorem Pm.rev{p:Array Nat}(h:Pm n p)(i j:Nat):Pm n (kas_rev p i j):=h.of (mirror_perm _ _ _ _)
theorem NM{p:Array Nat}{m:Nat}(h1:1<=m)(hs:Up key p m)(h:O.kle (kk key p (m-1)) (kk key p m)):Up key p (m+1):=λi j G L=>by
 by_cases J:j<m
 .exact hs i j G J
 .have:j=m:=by lia
  subst this
  by_cases hi:i=j
  .subst hi;exact KeyOrd.kle_refl _
  .exact KeyOrd.kle_trans (hs i (j-1) (3:) (3:)) h
theorem YE{p:Array Nat}{m:Nat}(h1:1<=m)(hs:GO key p m)(h:O.kle (kk key p m) (kk key p (m-1))):GO key p (m+1):=λi j G L=>by
 by_cases J:j<m
 .exact hs i j G J
 .have:j=m:=by lia
  subst this
  by_cases hi:i=j
  .subst hi;exact KeyOrd.kle_refl _
  .exact KeyOrd.kle_trans h (hs i (j-1) (3:) (3:))
theorem W3{p:Array Nat}(hP:Pm n p){Q:Nat->Prop}:∀(f m:Nat),1<=m->m+f<=n->Up key p m->(∀m',m<=m'->m'<=m+f->Up key p m'->(m'=m+f\/O.klt (kk key p m') (kk key p (m'-1)))->Q m')->Ok O key n Q (kas_asc p f m)
 | 0,m,_,_,G,h=>h m (5:) (5:) G (.inl rfl)
 | f+1,m,h1,L,G,h=>by
  refine⟨hP.lt (3:),hP.lt (3:),?_⟩;show Ok O key n Q (if O.blt (kk key p m) (kk key p (m-1))=true then .ret m else kas_asc p f (m+1));cases J:O.blt (kk key p m) (kk key p (m-1))with
  | true=>
   rw [if_pos rfl];exact h m (5:) (3:) G (.inr J)
  | false=>
   rw [if_neg Bool.false_ne_true];exact W3 hP f (m+1) (3:) (3:) (NM h1 G J) λm' a b c d=>h m' (3:) (3:) c (by rcases d with d | d;exact .inl (3:);exact .inr d)
variable(key) in
def Rk(p:Array Nat)(m q:Nat):Prop:=q+1<=m/\∀i,m-(q+1)<=i->i<m->kk key p i=kk key p (m-1)
theorem UW{Q:Array Nat×Nat×Nat->Prop}:∀(f:Nat)(p:Array Nat)(m q:Nat),Pm n p->1<=m->m+f<=n->GO key p m->Rk key p m q->
 (∀p' m' q',Pm n p'->m<=m'->m'<=m+f->GO key p' m'->Rk key p' m' q'->Q (p',m',q'))->Ok O key n Q (kas_desc f p m q)
 | 0,p,m,q,G,_,_,L,J,h=>h p m q G (5:) (5:) L J
 | f+1,p,m,q,G,h1,hn,L,J,h=>by
  have aa:=G.size;refine⟨G.lt (3:),G.lt (3:),?_⟩;show Ok O key n Q (if O.blt (kk key p m) (kk key p (m-1))=true then(if q>0 then kas_desc f (kas_rev p (m-(q+1)) m) (m+1) 0 else kas_desc f p (m+1) 0)
   else .ask (p.getD (m-1) 0) (p.getD m 0) λd=>if d=true then .ret (p,m,q)else kas_desc f p (m+1) (q+1))
  have one:∀p':Array Nat,Rk key p' (m+1) 0:=λp'=>⟨by lia,λi a b=>by congr 1;lia⟩;cases M:O.blt (kk key p m) (kk key p (m-1))with
  | true=>
   rw [if_pos rfl];have U:=YE h1 L (KeyOrd.kle_of_klt M)
   by_cases Y:q>0
   .rw [if_pos Y];have e:=U5 (key:=key) (p:=p) (i:=m-(q+1)) (j:=m) (3:) J.2;refine UW f _ (m+1) 0 (G.rev _ _) (3:) (3:) (λi j a b=>by rw [e,e];exact U i j a b) (one _) λp' m' q' a b c d g=>h p' m' q' a (3:) (3:) d g
   .rw [if_neg Y];exact UW f p (m+1) 0 G (3:) (3:) U (one _) λp' m' q' a b c d g=>h p' m' q' a (3:) (3:) d g
  | false=>
   rw [if_neg Bool.false_ne_true];refine⟨G.lt (3:),G.lt (3:),?_⟩;show Ok O key n Q (if O.blt (kk key p (m-1)) (kk key p m)=true then .ret (p,m,q)else kas_desc f p (m+1) (q+1));cases Z:O.blt (kk key p (m-1)) (kk key p m)with
   | true=>
    rw [if_pos rfl];exact h p m q G (5:) (3:) L J
   | false=>
    rw [if_neg Bool.false_ne_true];have he:kk key p m=kk key p (m-1):=KeyOrd.kle_antisymm Z M;refine UW f p (m+1) (q+1) G (3:) (3:) (YE h1 L Z) ⟨by have:=J.1;lia,λi a b=>?_⟩ λp' m' q' a b c d g=>h p' m' q' a (3:) (3:) d g;rw [Nat.add_sub_cancel]
    by_cases hi:i=m
    .rw [hi]
    .rw [he];exact J.2 i (3:) (3:)
theorem V9{p:Array Nat}{m:Nat}(hP:Pm n p)(h1:1<=m)(hm:m<=n)(hs:GO key p m){Q:Nat×Array Nat->Prop}(h:∀m' p',Pm n p'->1<=m'->m'<=n->Up key p' m'->Q (m',p')):Ok O key n Q (kas_tail3 m n p):=by
 have G:=hP.size;refine Ok.bind (W3 (hP.rev 0 m) (n-m) m h1 (3:) (λi j J L=>?_) λm' a b c _=>h m' _ (hP.rev 0 m) (3:) (3:) c);rw [Vj (3:),Vj (3:),if_pos (3:),if_pos (3:)];exact hs _ _ (3:) (3:)
theorem UH{p:Array Nat}{m:Nat}(hP:Pm n p)(h1:1<=m)(hm:m+1<=n)(hs:GO key p (m+1)){Q:Nat×Array Nat->Prop}(h:∀m' p',Pm n p'->1<=m'->m'<=n->Up key p' m'->Q (m',p')):Ok O key n Q (kas_descPart m n p):=by
 refine Ok.bind (UW (n-(m+1)) p (m+1) 0 hP (3:) (3:) hs ⟨by lia,λi a b=>by congr 1;lia⟩ λp' m' G a b c d g=>?_);have L:=a.size;show Ok O key n Q (if G>0 then kas_tail3 m' n (kas_rev p' (m'-(G+1)) m')else kas_tail3 m' n p')
 by_cases J:G>0
 .rw [if_pos J];have e:=U5 (key:=key) (p:=p') (i:=m'-(G+1)) (j:=m') (3:) g.2;exact V9 (a.rev _ _) (3:) (3:) (λi j x y=>by rw [e,e];exact d i j x y) h
 .rw [if_neg J];exact V9 a (3:) (3:) d h
theorem MT{p:Array Nat}(hP:Pm n p)(h1:1<=n){Q:Nat×Array Nat->Prop}(h:∀m' p',Pm n p'->1<=m'->m'<=n->Up key p' m'->Q (m',p')):Ok O key n Q (kas_count n p):=by
 have Z:=hP.size;refine Ok.bind (W3 hP (n-1) 1 (5:) (3:) (λi j a b=>?_) λm a b c d=>?_)
 .have:i=j:=by lia
  subst this;exact KeyOrd.kle_refl _
 .show Ok O key n Q (if(m==n)=true then .ret (m,p)else if m>1 then .ask (p.getD 0 0) (p.getD (m-1) 0) λc=>if c=true then .ret (m,p)else kas_descPart m n (kas_rev p 0 m)else kas_descPart m n p)
  by_cases L:m=n
  .rw [if_pos (by simpa using L)];exact h m p hP a (3:) c
  .rw [if_neg (by simpa using L)];have J:O.klt (kk key p m) (kk key p (m-1)):=by
    rcases d with d | d
    .exact absurd (3:) L
    .exact d
   by_cases M:m>1
   .rw [if_pos M];refine⟨hP.lt (3:),hP.lt (3:),?_⟩;show Ok O key n Q (if O.blt (kk key p 0) (kk key p (m-1))=true then .ret (m,p)else kas_descPart m n (kas_rev p 0 m));cases U:O.blt (kk key p 0) (kk key p (m-1))with
    | true=>
     rw [if_pos rfl];exact h m p hP a (3:) c
    | false=>
     rw [if_neg Bool.false_ne_true];have G:∀k,0<=k->k<m->kk key p k=kk key p (m-1):=λk _ Y=>
      KeyOrd.kle_antisymm (c k (m-1) (3:) (3:)) (KeyOrd.kle_trans U (c 0 k (3:) Y))
     have e:=U5 (key:=key) (p:=p) (i:=0) (j:=m) (3:) G;refine UH (hP.rev _ _) (3:) (3:) (YE (3:) (λi j x y=>?_) ?_) h
     .rw [e,e,G i (3:) (3:),G j (3:) y];exact KeyOrd.kle_refl _
     .rw [e,e];exact KeyOrd.kle_of_klt J
   .rw [if_neg M];have:m=1:=by lia
    subst this;refine UH hP (5:) (3:) (YE (5:) (λi j x y=>?_) (KeyOrd.kle_of_klt J)) h;have:i=j:=by lia
    subst this;exact KeyOrd.kle_refl _
theorem Jh{p:Array Nat}{k:Nat}(hP:Pm n p)(hk:k<n)(hs:Up key p k){Q:Nat->Prop}
 (h:∀l,l<=k->(∀i,i<l->O.kle (kk key p i) (kk key p k))->(∀i,l<=i->i<k->O.klt (kk key p k) (kk key p i))->Q l):∀(f l r:Nat),l<=r->r<=k->r-l<=f->
  (∀i,i<l->O.kle (kk key p i) (kk key p k))->(∀i,r<=i->i<k->O.klt (kk key p k) (kk key p i))->Ok O key n Q (kas_place p k f l r)
 | 0,l,r,a,b,c,d,e=>by
  have:l=r:=by lia
  subst this;exact h l b d e
 | f+1,l,r,a,b,c,d,e=>by
  show Ok O key n Q (if l>=r then .ret l else .ask (p.getD k 0) (p.getD ((l+r)/2) 0) λc=>if c=true then kas_place p k f l ((l+r)/2)else kas_place p k f ((l+r)/2+1) r)
  by_cases G:l>=r
  .rw [if_pos G];have:l=r:=by lia
   subst this;exact h l b d e
  .rw [if_neg G];refine⟨hP.lt hk,hP.lt (3:),?_⟩;show Ok O key n Q (if O.blt (kk key p k) (kk key p ((l+r)/2))=true then kas_place p k f l ((l+r)/2)else kas_place p k f ((l+r)/2+1) r);cases J:O.blt (kk key p k) (kk key p ((l+r)/2))with
   | true=>
    rw [if_pos rfl];exact Jh hP hk hs h f l ((l+r)/2) (3:) (3:) (3:) d λi x y=>KeyOrd.klt_of_klt_of_kle J (hs _ _ x y)
   | false=>
    rw [if_neg Bool.false_ne_true];exact Jh hP hk hs h f ((l+r)/2+1) r (3:) b (3:) (λi x=>KeyOrd.kle_trans (hs i ((l+r)/2) (3:) (3:)) J) e
theorem Xe{p:Array Nat}{k d:Nat}(hs:k<p.size)(hd:d<=k)(i:Nat):kk key (bubble p k d) i=if i=k-d then kk key p k else if k-d<i/\i<=k then kk key p (i-1)else kk key p i:=by
 have e:=getElem?_bubble hs d hd i
 by_cases h1:i=k-d
 .rw [if_pos h1]at e ⊢;exact Yt e
 .rw [if_neg h1]at e ⊢
  by_cases h2:k-d<i/\i<=k
  .rw [if_pos h2]at e ⊢;exact Yt e
  .rw [if_neg h2]at e ⊢;exact Yt e
theorem Ni{Q:Array Nat->Prop}:∀(f:Nat)(p:Array Nat)(k:Nat),Pm n p->1<=k->k+f=n->Up key p k->(∀p',Pm n p'->Up key p' n->Q p')->Ok O key n Q (kas_bin f p k)
 | 0,p,k,G,_,L,J,h=>h p G (by rw [<-L];exact J)
 | f+1,p,k,G,h1,L,J,h=>by
  have U:=G.size;have M:k<n:=by lia
  refine Ok.bind (Jh G M J (λl a b c=>?_) k 0 k (Nat.zero_le _) (5:) (3:) (λi x=>by lia) λi x y=>by lia);refine Ni f _ (k+1) (G.of (bubble_perm _ _ _)) (3:) (3:) (λi j Y Z=>?_) h;rw [Xe (3:) (3:),Xe (3:) (3:),show k-(k-l)=l by lia]
  repeat' split
  all_goals first
   | (exfalso;lia)
   | exact KeyOrd.kle_refl _
   | exact b _ (3:)
   | exact KeyOrd.kle_of_klt (c _ (3:) (3:))
   | exact J _ _ (3:) (3:)
theorem sort_ok(h1:1<=n){Q:Array Nat->Prop}(h:∀p,Pm n p->Up key p n->Q p):Ok O key n Q (kas_sort n):=by
 have J:Pm n (List.toArray (List.range n)):=List.Perm.refl _;refine Ok.bind (MT J h1 λm p a b c d=>?_);show Ok O key n Q (if m<n then kas_bin (n-max m 1) p (max m 1)else .ret p);have L:max m 1=m:=by lia
 by_cases G:m<n
 .rw [if_pos G,L];exact Ni (n-m) p m a b (3:) d h
 .rw [if_neg G];have:m=n:=by lia
  subst this;exact h p a d
end Srt
namespace L2
open PySem PySem.Spec PyProof.Rows PySem.W
section
variable{prog:Program}{w:World}{A:Around}{E:Value->Shared->Prop}{s:Shared}
end
section
variable{X:Cx}
end
end L2
namespace L2
open PySem PySem.Spec PyProof.Rows PySem.W
section
variable{prog:Program}{w:World}{A:Around}{E:Value->Shared->Prop}{s:Shared}
theorem MC{a:Addr}{vs:List Value}{n:Nat}{P:PySem.Fin->Shared->Prop}(O:KeyOrd)(key:Nat->O.α)(κ:SortKind)(ho:s.heap.get? a=some (seqObj "list" vs.toArray n))(h64:vs.length<64)
 (hk:∀(s':Shared)(Q:SortKind->Shared->Prop),(∀b o,b≠a->s.heap.get? b=some o->s'.heap.get? b=some o)->2<=vs.length->Q κ s'->wpAny (15:) A (keyKind' vs.toArray) Q E s')
 (hc:∀(s':Shared)(i j:Nat)(C:Bool->Shared->Prop),(∀b o,b≠a->s.heap.get? b=some o->s'.heap.get? b=some o)->i<vs.length->j<vs.length->C (O.blt (key i) (key j)) s'->wpAny (15:) A (keyLt' κ (vs.getD i Value.none) (vs.getD j Value.none)) C (λ_ _=>False) s')
 (h:∀p:Array Nat,Srt.Pm vs.length p->Srt.Up (O:=O) key p vs.length->P (.done (.ret .none)) { s with heap:=sortedHeap s.heap a vs (p.toList.map λi=>vs.getD i Value.none).toArray }):
 wpAny (15:) A (Builtin.«list.sort» ⟨[.ref a],[]⟩) P E s:=by
 have ac:a<s.heap.objs.size:=Heap.lt_size ho;rw [list_sort_plain];refine wpAny_bind (listItems_at ho rfl ?_);refine wpAny_bind (listUpdate_at ho rfl ?_ (by rw [List.size_toArray,sizeLine_eq];lia) (Nat.zero_le _));obtain⟨Y,U⟩: ∃Y,(s.heap.update a (Obj.mapSeq λ_=>(#[]:Array Value))).get? a=some (seqObj "list" #[] Y):=⟨_,get?_update_seq ho λ_=>#[]⟩;refine wpAny_bind (seqEpoch_at U rfl (wpAny_bind (wpAny_newTuple ?_ (by show vs.length<=_;rw [sizeLine_eq];lia))));refine wpAny_bind (wpAny_newList (wpAny_holding ?_) (Nat.zero_le _));have M:∀b o,b≠a->s.heap.get? b=some o->((11:).push (seqObj "list" #[] 0)).get? b=some o:=λb o hb e=>
  Heap.get?_push_of_some _ (Heap.get?_push_of_some _ ((Heap.get?_update_ne _ _ _ _ hb).trans e))
 have J:((11:).push (seqObj "list" #[] 0)).get? a=some (seqObj "list" #[] Y):=Heap.get?_push_of_some _ (Heap.get?_push_of_some _ U);show wpAny (15:) A _ P E { s with heap:=(11:).push (seqObj "list" #[] 0) };dsimp only;have hz:vs.toArray.size=vs.length:=List.size_toArray
 by_cases h2:vs.toArray.size<2
 .rw [if_pos h2,if_pos h2];refine wpAny_bind (wpAny_pure ?_);rw [StateT.run_pure];refine wpAny_bind (wpAny_pure ?_);dsimp only;refine wpAny_bind (seqEpoch_at J rfl ?_);have e2:(arrOf (SortSt.mk' general' (vs.toArray.zip vs.toArray) #[] 7 none)).map (·.2)=vs.toArray:=by
   show(vs.toArray.zip vs.toArray).map (·.2)=vs.toArray;apply Array.toList_inj.mp;rw [Array.toList_map,Array.toList_zip];exact List.map_snd_zip (5:)
  rw [e2];refine wpAny_bind (listUpdate_at J rfl ?_ (hsz2:=by show vs.toArray.size<=_;rw [sizeLine_eq];lia));simp only [bne_self_eq_false,Bool.false_eq_true,if_false];have:=h (List.range vs.length).toArray (List.Perm.refl _) (λi j ad Z=>by
   have:i=j:=by lia
   subst this;exact O.irrefl _)
  have e3:((List.range vs.length).toArray.toList.map λi=>vs.getD i Value.none)=vs:=by
   apply List.ext_getElem (22:);intro i a b;simp at a;simp [a]
  rw [e3]at this;exact wpAny_pure this
 .rw [if_neg h2,if_neg h2];refine wpAny_bind ?_;refine hk { s with heap:=(11:).push (seqObj "list" #[] 0) } _ M (3:) ?_;refine wpAny_bind (wpAny_mono (kat_run (Q:=λL s'=>∃p:Array Nat,Srt.Pm vs.length p/\Srt.Up (O:=O) key p vs.length/\(arrOf L).map (·.2)=(p.toList.map λi=>vs.getD i Value.none).toArray/\failedOf L=none/\
   s'={ s with heap:=(11:).push (seqObj "list" #[] 0) })
   (G:=λp s'=>Srt.Pm vs.length p/\Srt.Up (O:=O) key p vs.length/\s'={ s with heap:=(11:).push (seqObj "list" #[] 0) })
   (vs:=vs) (ks:=vs) rfl (3:) (3:) (λp L s' ae aa ab hg=>?_) ?_) (λr s' hq=>?_) λ_ _ e=>e)
  .obtain⟨hP,hU,es⟩:=hg;exact⟨p,hP,hU,kat_snds rfl aa,ab,es⟩
  .refine Srt.Ok.wp (O:=O) (key:=key) (n:=vs.length) (λi j C hi Z hC=>?_) (Q:=λp=>Srt.Pm vs.length p/\Srt.Up (O:=O) key p vs.length) (λp hp=>⟨hp.1,hp.2,rfl⟩) (Srt.sort_ok (3:) λp a b=>⟨a,b⟩);exact hc { s with heap:=(11:).push (seqObj "list" #[] 0) } i j C M hi Z hC
  .obtain⟨p,o1,o2,o3,o4,rfl⟩:=hq;obtain⟨⟨⟩,L⟩:=r;dsimp only at o3 o4 ⊢;refine wpAny_bind (seqEpoch_at J rfl ?_);rw [o3];refine wpAny_bind (listUpdate_at J rfl ?_ (hsz2:=by show(p.toList.map λi=>vs.getD i Value.none).toArray.size<=_;rw [List.size_toArray,List.length_map,o1.length_eq,List.length_range,sizeLine_eq];lia));rw [o4];simp only [bne_self_eq_false,Bool.false_eq_true,if_false];exact wpAny_pure (h p o1 o2)
theorem Vm{l:Addr}{vs:List Value}{Q:Value->Shared->Prop}(O:KeyOrd)(key:Nat->O.α)(κ:SortKind)(hl:s.heap.IsList l vs.toArray)(h64:vs.length<64)
 (hk:∀(s':Shared)(E':Value->Shared->Prop)(Q:SortKind->Shared->Prop),(∀b o,s.heap.get? b=some o->s'.heap.get? b=some o)->2<=vs.length->Q κ s'->wpAny (15:) A.in1.in1 (keyKind' vs.toArray) Q E' s')
 (hc:∀(s':Shared)(i j:Nat)(C:Bool->Shared->Prop),(∀b o,s.heap.get? b=some o->s'.heap.get? b=some o)->i<vs.length->j<vs.length->C (O.blt (key i) (key j)) s'->wpAny (15:) A.in1.in1 (keyLt' κ (vs.getD i Value.none) (vs.getD j Value.none)) C (λ_ _=>False) s')
 (h:∀p:Array Nat,Srt.Pm vs.length p->Srt.Up (O:=O) key p vs.length->Q (.ref (16:)) { s with heap:=sortedAll s.heap vs (p.toList.map λi=>vs.getD i Value.none).toArray }):
 wpAny (15:) A (call (.builtin "sorted") [.ref l]) Q E s:=by
 refine Calls.call_function_entry kind_sorted plain_sorted entry_sorted (args_sorted1 _) ?_;unfold Builtin.«sorted»;refine wpAny_bind (m:=checkCount "sorted" 1 1 _) (wpAny_pure ?_);refine wpAny_bind (collect_list hl ?_ (by rw [sizeLine_eq];lia));refine wpAny_bind (wpAny_newList ?_ (by rw [sizeLine_eq];lia));have J:((s.heap.push (seqObj "list" #[] 0)).update s.heap.objs.size (Obj.mapSeq (· ++vs.toArray))).objs.size=s.heap.objs.size+1:=by rw [Heap.size_update,size_push']
 have L:(((s.heap.push (seqObj "list" #[] 0)).update s.heap.objs.size (Obj.mapSeq (· ++vs.toArray))).push (seqObj "list" vs.toArray 0)).get? (16:)=some (seqObj "list" vs.toArray 0):=by
  rw [<-J];exact Heap.get?_push_size _ rfl
 have U:∀b o,s.heap.get? b=some o->(((s.heap.push (seqObj "list" #[] 0)).update s.heap.objs.size (Obj.mapSeq (· ++vs.toArray))).push (seqObj "list" vs.toArray 0)).get? b=some o:=λb o e=>by
  have G:b<s.heap.objs.size:=Heap.lt_size e;exact Heap.get?_push_of_some _ ((Heap.get?_update_ne _ _ _ _ (Nat.ne_of_lt G)).trans (Heap.get?_push_of_some _ e))
 show wpAny _ _ _ _ _ { s with heap:=((s.heap.push (seqObj "list" #[] 0)).update s.heap.objs.size (Obj.mapSeq (· ++vs.toArray))).push (seqObj "list" vs.toArray 0) };rw [J];refine wpAny_bind (wpAny_holding (wpAny_call_entry slot_list_sort ⟨_,L,rfl⟩ entry_list_sort ?_ (args_list_sort _)));have M:∀(s':Shared),(∀b o,b≠s.heap.objs.size+1->(((s.heap.push (seqObj "list" #[] 0)).update s.heap.objs.size (Obj.mapSeq (· ++vs.toArray))).push (seqObj "list" vs.toArray 0)).get? b=some o->s'.heap.get? b=some o)->∀b o,s.heap.get? b=some o->s'.heap.get? b=some o:=λs' h b o e=>by
  have G:b<s.heap.objs.size:=Heap.lt_size e;exact h b o (λz=>by rw [z]at G;exact absurd G (Nat.not_lt.mpr (Nat.le_succ _))) (U b o e)
 refine MC (A:=A.in1.in1) O key κ L h64 (λs' Z Y h2 hq=>hk s' _ Z (M s' Y) h2 hq) (λs' i j C Y hi hj hC=>hc s' i j C (M s' Y) hi hj hC) λp o1 o2=>⟨_,rfl,wpAny_pure ⟨_,rfl,h p o1 o2⟩⟩
theorem OF{x y:Addr}{fx sx fy sy:Value}{b:Bool}{C:Bool->Shared->Prop}(hx:s.heap.IsTuple x [fx,sx].toArray)(hy:s.heap.IsTuple y [fy,sy].toArray)
 (hne:x≠y->SeqAt.EqAt A s fx fy false/\wpAny (15:) A (oneLt' b fx fy) C (λ_ _=>False) s) (heq:x=y->SeqAt.EqAt A s fx fx true/\SeqAt.EqAt A s sx sx true/\C false s):
 wpAny (15:) A (keyLt' (tuples' b) (.ref x) (.ref y)) C E s:=by
 obtain⟨ox,M,cx,nx,dx⟩:=hx;obtain⟨oy,U,cy,ny,G⟩:=hy;refine kat_lt M dx U G ?_
 by_cases h:x=y
 .subst h;obtain rfl:=Option.some.inj (M.symm.trans U);rw [dx]at G;injection G with Y e2;have Z:[fx,sx]=[fy,sy]:=by simpa using congrArg Array.toList Y
  injection Z with e4 e5;injection e5 with e6 e7;subst e4 e6;obtain⟨J,L,q3⟩:=heq rfl;show KatLex prog w A b _ C [(fx,fx),(sx,sx)] 0 s;refine kat_cons (J _ _ _ _ (kat_yes (kat_cons (L _ _ _ _ (kat_yes (kat_nil ?_))))));exact q3
 .obtain⟨J,L⟩:=hne h;show KatLex prog w A b _ C [(fx,fy),(sx,sy)] 0 s;refine kat_cons (J _ _ _ _ (kat_no ?_));have:(b&&(0:Nat)==0)=b:=by simp
  rw [this];exact L
end
theorem OA{α:Type}{O:KeyOrd}{ts:List α}{d:α}{key:α->O.α}{p:Array Nat}(hP:Srt.Pm ts.length p)(hU:Srt.Up (O:=O) (λi=>key (ts.getD i d)) p ts.length):
 (p.toList.map λi=>ts.getD i d).Perm ts/\(p.toList.map λi=>ts.getD i d).Pairwise λx y=>O.blt (key y) (key x)=false:=by
 constructor
 .have h1:=List.Perm.map (λi=>ts.getD i d) hP;have e:(List.range ts.length).map (λi=>ts.getD i d)=ts:=by
   apply List.ext_getElem (22:);intro i a b;simp at a;simp [a]
  rwa [e]at h1
 .rw [List.pairwise_iff_getElem];intro i j hi G J;have U:=hP.size;simp only [List.length_map,Array.length_toList]at hi G;have:=hU i j (Nat.le_of_lt J) (3:);unfold KeyOrd.kle Srt.kk at this;have L:p.getD i 0=p[i]:=by simp [Array.getD,hi]
  have M:p.getD j 0=p[j]:=by simp [Array.getD,G]
  rw [L,M]at this
  simpa using this
theorem IsTuple.keeps{h h':Heap}{a:Addr}{xs:Array Value}(k:∀b o,h.get? b=some o->h'.get? b=some o)(x:h.IsTuple a xs):h'.IsTuple a xs:=by
 obtain⟨o,e,r⟩:=x;exact⟨o,k _ _ e,r⟩
section
variable{prog:Program}{w:World}{A:Around}{E:Value->Shared->Prop}{s:Shared}
end
section
variable{X:Cx}
theorem Ul{α:Type}{f:α->Addr}:∀{ts:List α}{us:List Value},Vals (ts.map λt=>V.ref (f t)) us->us=ts.map λt=>Value.ref (f t)
 | [],_,.nil=>rfl
 | t::ts,_,.cons r rr=>by
  have e:_=Value.ref (f t):=r;rw [List.map_cons,<-Ul rr,<-e]
theorem Xb{α:Type}{f:α->Addr}:∀ts:List α,Vals (ts.map λt=>V.ref (f t)) (ts.map λt=>Value.ref (f t))
 | []=>.nil
 | t::ts=>.cons rfl (Xb ts)
end
end L2
namespace L2
open PySem PySem.Spec PyProof.Rows
theorem Zj:plainId "dict.update.loop"=true:=by decide+kernel
theorem Yz:entryFor table "dict.update.loop"=some Builtin.«dict.update.loop»:=entryFor_of_tree (by kernel_rfl)
theorem Jl:typeLookup (.type "list") "keys"=pure none:=by rw [typeLookup_type,builtinLookup_eq_fast];kernel_rfl
section
variable{prog:Program}{w:World}{A:Around}{E:Value->Shared->Prop}{s:Shared}
theorem G2{a:Addr}{xs:Array Value}{k:Nat}{sl:Array (Option Value)}{Q:Option Value->Shared->Prop}(hx:s.heap.get? a=some { cls:=.type "list",dict:=none,data:=.seq xs k,slots:=sl })(hA:A.handled=none)
 (h:∀h' tk,(∀b o,s.heap.get? b=some o->h'.get? b=some o)->Q none { s with heap:=h',toks:=tk }):wpAny (15:) A (getAttr? (.ref a) "keys") Q E s:=by
 obtain⟨hp,g,d,tk,M⟩:=s;have L:∀G,(⟨hp,g,d,G,M⟩:Shared).TypeIs (.ref a) "list":=λ_=>⟨_,hx,rfl⟩;have f1:=sub_AttributeError;have f3:=F.slot_list_getattribute.lookup;have U:=F.slot_list_getattribute.bind (.ref a);have Y:=am_list_getattr_none;unfold getAttr? getAttrBy? getAttrBy
 repeat (any_goals (first | assumption | exact L _ | ((with_reducible show wpAny _ _ (call (Value.builtin "list.__getattribute__") _ _) _ _ _);refine call_meets F.slot_list_getattribute (L _) am_entry_list_getattribute (F.args_list_getattribute_2 _ _) (meets_getattribute_miss_list a xs k sl "keys" _ Jl (0:)) ⟨hx,hA,λh' G e J=>?_⟩) | wp_step))
 obtain⟨Z,u',he⟩:=J.there;show wpAny _ _ (getattributeRaised _ _ _ _ _ _ _) _ _ _;unfold getattributeRaised
 repeat (any_goals (first | assumption | wp_step))
 exact h _ _ J.keeps
theorem JH{h:Heap}{a b:Addr}{o u:Obj}(ha:h.get? a=some o)(hb:h.get? b=some u)(hc:o.cls≠u.cls):a≠b:=λe=>by
 subst e;rw [ha]at hb;exact hc (congrArg Obj.cls (Option.some.inj hb))
def Z3(kvs:List (Key×Value)):List (Key×Value)->List (Key×Value)
 | []=>kvs
 | p::r=>Z3 (stored kvs p.1 p.2) r
theorem WL{R:Result->Shared->Prop}{l d it:Addr}{items:Array Value}(hA:A.handled=none)(hli:l≠it)(hd0:(d==sysModules)=false):∀(ps:List (Key×Value))(i:Nat)(s:Shared)(kvs:List (Key×Value)),i+ps.length=items.size->s.heap.IsListIter it l i->s.heap.IsList l items->s.heap.DictOf (Qx prog w) d kvs->kvs.length+ps.length<=sizeLine->
 (∀(j:Nat)(q:Key×Value),ps[j]?=some q->∃p u,items[i+j]?=some (.ref p)/\(Qx prog w).is q.1 u=true/\s.heap.IsTuple p #[u,q.2])->
 (∀h' tk,h'.DictOf (Qx prog w) d (Z3 kvs ps)->(∀b o,b≠it->b≠d->s.heap.get? b=some o->h'.get? b=some o)->R (.ok (.ret .none)) { s with heap:=h',toks:=tk })->
 codeAny (15:) A (.builtin "dict.update.loop" ⟨[.ref d,.ref it,rawInt (i:Int),.none],[]⟩) R s
 | [],i,s,kvs,hk,U,hL,Y,hz,hp,hR=>by
  have W:=Walks.list (prog:=prog) (w:=w) (A:=A.in1) hA it l hli items;have an:i=items.size:=by simpa using hk
  subst an;refine codeAny_builtin Yz ?_;rw [Around.under_plainId Zj _];show wpAny _ A.in1 (pyNext (.ref it)>>=_) _ _ s;refine wpAny_bind (W.done s _ _ ⟨U,hL⟩ λh' tk Z=>?_);show wpAny _ A.in1 (Builtin.Dict.addKeywords d []>>=_) _ _ _;refine wpAny_bind (wpAny_pure (wpAny_pure ?_));have aa:d≠it:=by
   obtain⟨o,es,ep,G,M,_⟩:=Y;obtain⟨o2,J,L,_⟩:=U;exact JH G J (by rw [M.1,L];intro z;injection z with z;exact absurd z (12:))
  exact hR h' tk (Y.extBut (b:=it) (λa o ac e=>Z a o (by simpa using ac) e) aa) (λb o h1 _ e=>Z b o (by simpa using h1) e)
 | q::ps,i,s,kvs,hk,U,hL,Y,hz,hp,hR=>by
  have W:=Walks.list (prog:=prog) (w:=w) (A:=A.in1) hA it l hli items;obtain⟨p,u,ah,ao,ai⟩:=hp 0 q rfl;rw [Nat.add_zero]at ah;have ap:i<items.size:=by rw [List.length_cons]at hk;lia
  have aa:d≠it:=by
   obtain⟨o,es,ep,G,M,_⟩:=Y;obtain⟨o2,J,L,_⟩:=U;exact JH G J (by rw [M.1,L];intro z;injection z with z;exact absurd z (12:))
  have aq:d≠l:=by
   obtain⟨o,es,ep,G,M,_⟩:=Y;obtain⟨o2,J,L,_⟩:=hL;exact JH G J (by rw [M.1,L];intro z;injection z with z;exact absurd z (12:))
  have ad:∀{p:Addr}{xs:Array Value},s.heap.IsTuple p xs->p≠it/\p≠d:=λ{p xs} ht=>by
   obtain⟨o,G,M,_⟩:=ht;obtain⟨o2,J,L,_⟩:=id U;obtain⟨o3,es,ep,ar,as,_⟩:=id Y;exact⟨JH G J (by rw [M,L];intro z;injection z with z;exact absurd z (12:)),JH G ar (by rw [M,as.1];intro z;injection z with z;exact absurd z (12:))⟩
  refine codeAny_builtin Yz ?_;rw [Around.under_plainId Zj _];show wpAny _ A.in1 (pyNext (.ref it)>>=_) _ _ s;refine wpAny_bind (W.item i s _ _ ap ⟨U,hL⟩ λv h' tk hP ae Z=>?_);obtain rfl:v=.ref p:=Option.some.inj ((show items[i]?=some v from hP).symm.trans ah);have af:∀b o,b≠it->s.heap.get? b=some o->h'.get? b=some o:=λb o hb e=>Z b o (by simpa using hb) e;have aj:h'.IsTuple p #[u,q.2]:=by
   obtain⟨o,G,r⟩:=id ai;exact⟨o,af _ _ (ad ai).1 G,r⟩
  obtain⟨o,G,M,n,ak⟩:=id aj;refine wpAny_bind (wpAny_holding ?_);refine wpAny_bind (wpAny_tryCatch ?_);unfold Builtin.Dict.pairItems;refine wpAny_bind (wpAny_typeOf (T:="tuple") (s:={ s with heap:=h',toks:=tk }) ⟨o,G,M⟩ ?_);rw [if_pos (0:)];refine wpAny_bind ?_;show wpAny _ A.in1 (load p>>=_) _ _ _;refine wpAny_bind (wpAny_load G ?_);rw [ak];refine wpAny_pure (wpAny_pure ?_);have au:h'.DictOf (Qx prog w) d kvs:=Y.extBut (b:=it) (λa o ac e=>af a o ac e) aa;refine wpAny_holding (wpAny_dictSet_pairs (s:={ s with heap:=h',toks:=tk }) ao au (λag al hs=>?_) (by rw [List.length_cons]at hz;lia));have am:ag.IsListIter it l (i+1):=by
   obtain⟨o,G,r⟩:=ae.1;exact⟨o,(hs.2 it (Ne.symm aa)).trans G,r⟩
  have av:ag.IsList l items:=by
   obtain⟨o,G,r⟩:=ae.2;exact⟨o,(hs.2 l (Ne.symm aq)).trans G,r⟩
  have ab:∀b o,b≠it->b≠d->s.heap.get? b=some o->ag.get? b=some o:=λb o h1 h2 e=>(hs.2 b h2).trans (af b o h1 e);have az:(stored kvs q.1 q.2).length<=kvs.length+1:=by
   unfold stored;split
   .rw [List.length_map];lia
   .rw [List.length_append];simp
  refine wpAny_pure ⟨plainId_quiet Zj _,?_⟩;refine WL hA hli hd0 ps (i+1) _ (stored kvs q.1 q.2) (by rw [List.length_cons]at hk;lia) am av al (by rw [List.length_cons]at hz;lia) (λj r hj=>?_) λh3 aw ax ay=>?_
  .obtain⟨p',u',e1,e2,e3⟩:=hp (j+1) r (by simpa using hj);refine⟨p',u',by rw [<-e1];congr 1;lia,e2,?_⟩;obtain⟨o,G,rr⟩:=id e3;exact⟨o,ab _ _ (ad e3).1 (ad e3).2 G,rr⟩
  .exact hR h3 aw ax λb o h1 h2 e=>ay b o h1 h2 (ab b o h1 h2 e)
theorem VH{l:Addr}{items:Array Value}{ps:List (Key×Value)}{Q:Value->Shared->Prop}(hA:A.handled=none)(hb:sysModules<s.heap.objs.size){ol:Obj}{nl:Nat}(hl:s.heap.get? l=some ol)(hlc:ol.cls=.type "list")(hld:ol.dict=none)(hlt:ol.data=.seq items nl)(hz:ps.length<=sizeLine)(hn:ps.length=items.size)
 (hp:∀(j:Nat)(q:Key×Value),ps[j]?=some q->∃p u,items[j]?=some (.ref p)/\(Qx prog w).is q.1 u=true/\s.heap.IsTuple p #[u,q.2])
 (h:∀h' tk,h'.DictOf (Qx prog w) s.heap.objs.size (Z3 [] ps)->(∀b o,s.heap.get? b=some o->h'.get? b=some o)->Q (33:) { s with heap:=h',toks:=tk }):
 wpAny (15:) A (call (.type "dict") [.ref l]) Q E s:=by
 refine callType_codes (Q₁:=λY ab=>Y=.ref s.heap.objs.size/\ab={ s with heap:=s.heap.push { cls:=.type "dict",data:=.dict #[] } }) F.kt_called_dict (F.kt_typeCall_dict_1 _) F.entry_dict_init (kt_code_dict_new _ ⟨rfl,rfl⟩) ?_;rintro Y ab ⟨rfl,rfl⟩;have G:(s.heap.push { cls:=.type "dict",data:=.dict #[] }).DictOf (Qx prog w) s.heap.objs.size []:=Heap.DictOf.new s.heap;have L:(s.heap.push { cls:=.type "dict",data:=.dict #[] }).get? l=some ol:=Heap.get?_push_of_some _ hl;have hT:({ s with heap:=s.heap.push { cls:=.type "dict",data:=.dict #[] } }:Shared).TypeIs (.ref l) "list":=⟨_,L,hlc⟩;obtain⟨c1,d1,t1,s1⟩:=ol;simp only at hlc hld hlt;subst hlc hld hlt;refine⟨G.typeIs,F.args_dict_init_2 _ _,?_⟩;unfold Builtin.«dict.__init__»;refine wpAny_bind ?_;unfold Builtin.Dict.selfAndRest;refine wpAny_bind (wpAny_notOrdered_dict G.typeIs ?_);show wpAny _ _ (pure (s.heap.objs.size,[Value.ref l])) _ _ _;refine wpAny_pure ?_;show wpAny _ _ (Builtin.Dict.updateFrom "dict.__init__" s.heap.objs.size (.ref l) [] .none) _ _ _;unfold Builtin.Dict.updateFrom;refine wpAny_bind (wpAny_typeOf hT ?_);rw [if_pos (12:)];refine wpAny_bind (G2 L hA λh2 ac J=>?_);simp only [Option.isNone_none,if_true];refine wpAny_bind (wpAny_rule ?_);have Z:h2.IsList l items:=⟨_,J _ _ L,rfl,nl,rfl⟩;refine wpAny_bind (wpAny_pyIter_list (s:={ s with heap:=h2,toks:=ac }) Z ?_);have aa:l<h2.objs.size:=Heap.lt_size (J _ _ L);have ae:s.heap.objs.size<h2.objs.size:=by
  obtain⟨o,es,ep,M,_⟩:=id G;exact Heap.lt_size (J _ _ M)
 have ad:h2.DictOf (Qx prog w) s.heap.objs.size []:=by
  obtain⟨o,es,ep,M,r⟩:=id G;exact⟨o,es,ep,J _ _ M,r⟩
 have U:∀b o,s.heap.get? b=some o->h2.get? b=some o:=λb o e=>J b o (Heap.get?_push_of_some _ e);refine wpAny_pure ⟨plainId_quiet Zj _,WL (A:=A.in1) (it:=h2.objs.size) (l:=l) (items:=items) hA (Nat.ne_of_lt aa) (beq_eq_false_iff_ne.mpr (Ne.symm (Nat.ne_of_lt hb))) ps 0 _ [] (by simpa using hn) ⟨_,Heap.get?_push_size _ rfl,rfl,rfl⟩ (Z.push _) (ad.push _) (by simpa using hz) (λj q hq=>?_) λh' tk hD hk=>⟨rfl,?_⟩⟩
 .obtain⟨p,u,e1,e2,o,M,r⟩:=hp j q hq;exact⟨p,u,by rw [Nat.zero_add];exact e1,e2,o,Heap.get?_push_of_some _ (U _ _ M),r⟩
 .refine h h' tk hD λb o e=>hk b o ?_ ?_ (Heap.get?_push_of_some _ (U b o e))
  .exact Nat.ne_of_lt (Heap.lt_size (U b o e))
  .exact Nat.ne_of_lt (36:)
end
theorem Vt{kvs:List (Key×Value)}{k:Key}{v:Value}(h:k∉kvs.map (·.1)):stored kvs k v=kvs++[(k,v)]:=by
 unfold stored;rw [if_neg];intro z;obtain⟨kv,h1,h2⟩:=List.any_eq_true.mp z;exact h (List.mem_map.mpr ⟨kv,h1,of_decide_eq_true h2⟩)
theorem Y1:∀(ps kvs:List (Key×Value)),((kvs++ps).map (·.1)).Nodup->Z3 kvs ps=kvs++ps
 | [],kvs,_=>by simp [Z3]
 | p::r,kvs,h=>by
  have G:p.1∉kvs.map (·.1):=λJ=>by
   rw [List.map_append,List.nodup_append]at h;exact h.2.2 _ J _ (22:) rfl
  show Z3 (stored kvs p.1 p.2) r=_;rw [Vt G];have e:kvs++[(p.1,p.2)]++r=kvs++p::r:=by simp
  rw [Y1 r _ (by rw [e];exact h),e]
theorem WY{X:Cx}{pins:List (8:)}{σ:St}{H:Hp}{s:Shared}(I:Inv X pins σ H s):∀ts:List (Addr×Str×V),(∀t∈ts,SqT X.K H t.1 [.str t.2.1,t.2.2])->
 ∃ps:List (Key×Value),KV (ts.map λt=>((Sum.inr t.2.1:Key),t.2.2)) ps/\∀(j:Nat)(q:Key×Value),ps[j]?=some q->∃p u,(ts.map λt=>Value.ref t.1)[j]?=some (.ref p)/\(Qx X.prog X.w).is q.1 u=true/\s.heap.IsTuple p #[u,q.2]
 | [],_=>⟨[],.nil,λj q h=>by simp at h⟩
 | t::r,h=>by
  obtain⟨ps,h1,h2⟩:=WY I r λu L=>h u (List.mem_cons_of_mem _ L);obtain⟨its,M,p,_⟩:=I.tuple (h t List.mem_cons_self);obtain⟨u,v,rfl,U,G⟩:=M.two;refine⟨(Sum.inr t.2.1,v)::ps,.cons ⟨rfl,G⟩ h1,λj q J=>?_⟩;cases j with
  | zero=>
   have:q=(Sum.inr t.2.1,v):=by simpa using J.symm
   subst this;exact⟨t.1,u,rfl,Jw (k:=Sum.inr t.2.1) U,p⟩
  | succ j=>
   obtain⟨Y,Z,e1,e2,e3⟩:=h2 j q (by simpa using J);exact⟨Y,Z,by simpa using e1,e2,e3⟩
theorem KV.keys'{kvs:List (Key×V)}{ps:List (Key×Value)}(r:KV kvs ps):ps.map (·.1)=kvs.map (·.1):=by
 induction r with
 | nil=>rfl
 | cons h _ G=>rw [List.map_cons,List.map_cons,G,h.1]
section
variable{X:Cx}
theorem JA(hc:X.calm=true):QV X (.type "dict") (λxs H Q=>∃(l:Addr)(ts:List (Addr×Str×V)),xs=[.ref l]/\SqL X.K H l (ts.map λt=>V.ref t.1)/\(∀t∈ts,SqT X.K H t.1 [.str t.2.1,t.2.2])/\(ts.map λt=>t.2.1).Nodup/\ts.length<=1000/\
 ∀d,H d=none->Q (.ref d) (upd H d (.dK (ts.map λt=>((Sum.inr t.2.1:Key),t.2.2))))):=by
 intro pins s σ H xs us Q I r h;obtain⟨l,ts,rfl,hl,ht,L,hz,q⟩:=h;cases r with
 | cons r rr=>
  cases rr;obtain rfl:_=Value.ref l:=r;obtain⟨its,rv,⟨o,n,e,c,dn,dt⟩,_⟩:=I.list hl;obtain rfl:=Ul rv;obtain⟨ps,G,M⟩:=WY I ts ht;have J:ps.length=ts.length:=by have:=G.length;rw [List.length_map]at this;exact this.symm
  have U:ps.length<=sizeLine:=by rw [J,sizeLine_eq];lia
  refine VH (I.ok.hd hc) I.big e c dn dt U (by rw [List.size_toArray,List.length_map];exact J) (λj q hq=>by simpa using M j q hq) λh' tk Y hk=>?_;have Z:((([]:List (Key×Value))++ps).map (·.1)).Nodup:=by
   rw [List.nil_append,KV.keys' G,List.map_map];have e2:(ts.map ((λx:Key×V=>x.1)∘λt=>((Sum.inr t.2.1:Key),t.2.2)))=(ts.map λt=>t.2.1).map (Sum.inr:Str->Key):=by rw [List.map_map];rfl
   rw [e2];exact List.Pairwise.map _ (λa b aa z=>aa (by injection z)) L
  rw [Y1 ps [] Z,List.nil_append]at Y;have ab:=I.hok.fresh (Nat.le_refl s.heap.objs.size);refine⟨.ref s.heap.objs.size,_,I.laid (a:=s.heap.objs.size) (o:=.dK (ts.map λt=>((Sum.inr t.2.1:Key),t.2.2))) (t':=tk) hk (5:) (VR (by rw [List.length_map,sizeLine_eq];lia) (beq_eq_false_iff_ne.mpr (Ne.symm (Nat.ne_of_lt I.big))) G Y),rfl,q _ ab⟩
theorem Jk:∀{bs:List Bool}{us:List Value},Vals (bs.map V.bl) us->us=bs.map Value.bool
 | [],_,.nil=>rfl
 | b::bs,_,.cons r rr=>by
  have e:_=Value.bool b:=r;rw [List.map_cons,<-Jk rr,<-e]
theorem GJ(hc:X.calm=true):QV X (.builtin "all") (λxs H Q=>∃(l:Addr)(bs:List Bool),xs=[.ref l]/\SqL X.K H l (bs.map V.bl)/\Q (.bl (bs.all id)) H):=by
 intro pins s σ H xs us Q I r h;obtain⟨l,bs,rfl,Z,q⟩:=h;cases r with
 | cons r rr=>
  cases rr;obtain rfl:_=Value.ref l:=r;obtain⟨its,rv,p,_⟩:=I.list Z;obtain rfl:=Jk rv;have U:=p.isList;have Y:l<s.heap.objs.size:=by obtain⟨_,e,_⟩:=U;exact Heap.lt_size e
  refine call_all_walk (wpAny_pyIter_list U ?_);refine⟨s.heap.objs.size,[s.heap.objs.size,l],[s.heap.objs.size],(bs.map Value.bool).toArray.size,_,_,λi=>(bs[i]?).getD true,rfl,Walks.list (A:=X.A.in1) (I.ok.hd hc) _ l (Nat.ne_of_lt Y) (bs.map Value.bool).toArray,⟨⟨_,Heap.get?_push_size _ rfl,rfl,rfl⟩,U.push _⟩,λi v s' Q' E' hP hQ=>?_,λh' tk hk=>?_⟩
  .have G:(bs.map Value.bool)[i]?=some v:=by simpa using hP
   rw [List.getElem?_map]at G;cases J:bs[i]? with
   | none=>rw [J]at G;simp at G
   | some b=>
    rw [J]at G;obtain rfl:Value.bool b=v:=by simpa using G
    have L:Q' ((bs[i]?).getD true) s':=hQ;rw [J]at L;exact wpAny_truthy_bool L
  .have e:((List.range (bs.map Value.bool).toArray.size).all λi=>(bs[i]?).getD true)=bs.all id:=by
    rw [List.size_toArray,List.length_map,Bool.eq_iff_iff,List.all_eq_true,List.all_eq_true];constructor
    .intro h x hx;obtain⟨i,hi,rfl⟩:=List.getElem_of_mem hx;have:=h i (List.mem_range.mpr hi);rw [List.getElem?_eq_getElem hi]at this;exact this
    .intro h i hi;have M:=List.mem_range.mp hi;rw [List.getElem?_eq_getElem M];exact h _ (List.getElem_mem M)
   rw [e];exact⟨.bl _,H,I.kept (t':=tk) (λb o J=>hk b o (λhm=>by rw [List.mem_singleton.mp hm]at J;exact Nat.lt_irrefl _ (Heap.lt_size J)) (Heap.get?_push_of_some _ J)),rfl,q⟩
end
end L2
namespace L2
open PySem PySem.Spec PyProof.Rows
section
variable{X:Cx}{tg:Expr}
end
end L2
namespace L2
open PySem PySem.Spec PyProof.Rows
section
variable{prog:Program}{w:World}{A:Around}{E:Value->Shared->Prop}{s:Shared}{it t:Addr}{i:Nat}{its:Array Value}{x:Value}{Q:Value->Shared->Prop}
theorem Yb(hi:s.heap.IsTupleIter it t i)(ht:s.heap.IsTuple t its)(hx:its[i]?=some x)(q:∀h',h'.IsTupleIter it t (i+1)->Heap.SameBut it s.heap h'->Q x { s with heap:=h' }):
 wpAny (15:) A (Builtin.SmallTypes.nextOf (.ref it)) Q E s:=by
 obtain⟨Y,J,L,G⟩:=id hi;obtain⟨Z,M,_,nt,U⟩:=ht;unfold Builtin.SmallTypes.nextOf;refine wpAny_bind (wpAny_callSpecial?_slot (name:=Str.ofString "__next__") hi.typeIs F.slot_tuple_iterator_next (wpAny_call_entry F.slot_tuple_iterator_next hi.typeIs F.entry_tuple_iterator_next ?_ (F.args_tuple_iterator_next_1 _)));show wpAny _ _ (field (.ref it) 0>>=_) _ _ s;refine wpAny_bind (wpAny_field J G (x:=.ref t) rfl ?_);show wpAny _ _ (if(Value.ref t==Value.none)=true then _ else _) _ _ s;rw [if_neg (show ¬((Value.ref t==Value.none)=true)from Bool.false_ne_true)];show wpAny _ _ (field (.ref it) 1>>=_) _ _ s;refine wpAny_bind (wpAny_field J G (x:=.int i 0) rfl ?_);show wpAny _ _ (seqItems? (.ref t)>>=_) _ _ s;refine wpAny_bind (wpAny_seqItems M U ?_);simp only [Int.toNat_natCast,hx];refine wpAny_bind (wpAny_setField J G (22:) (wpAny_pure ⟨x,rfl,wpAny_pure (q _ ⟨_,Heap.get?_update_self _ J (Obj.isFreed_of_fields (Obj.data_mapFields G _)),(Obj.cls_mapFields ..).trans L,?_⟩ (Heap.SameBut.update ..))⟩));rw [Obj.data_mapFields G];simp [rawInt]
theorem UG(hh:A.handled=none)(hi:s.heap.IsTupleIter it t i)(ht:s.heap.IsTuple t its)(hx:its[i]?=none)
 (q:∀h' e,Heap.ExtBut it s.heap h'->(∃o,h'.get? e=some o/\o.cls=.type "StopIteration")->E (.ref e) { s with heap:=h' }):wpAny (15:) A (Builtin.SmallTypes.nextOf (.ref it)) Q E s:=by
 obtain⟨U,G,Y,J⟩:=id hi;obtain⟨Z,L,_,nt,M⟩:=ht;unfold Builtin.SmallTypes.nextOf;refine wpAny_bind (wpAny_callSpecial?_slot (name:=Str.ofString "__next__") hi.typeIs F.slot_tuple_iterator_next (wpAny_call_entry F.slot_tuple_iterator_next hi.typeIs F.entry_tuple_iterator_next ?_ (F.args_tuple_iterator_next_1 _)));show wpAny _ _ (field (.ref it) 0>>=_) _ _ s;refine wpAny_bind (wpAny_field G J (x:=.ref t) rfl ?_);show wpAny _ _ (if(Value.ref t==Value.none)=true then _ else _) _ _ s;rw [if_neg (show ¬((Value.ref t==Value.none)=true)from Bool.false_ne_true)];show wpAny _ _ (field (.ref it) 1>>=_) _ _ s;refine wpAny_bind (wpAny_field G J (x:=.int i 0) rfl ?_);show wpAny _ _ (seqItems? (.ref t)>>=_) _ _ s;refine wpAny_bind (wpAny_seqItems L M ?_);simp only [Int.toNat_natCast,hx];refine wpAny_bind (wpAny_rule (wpAny_bind (wpAny_setField G J (22:) ?_)));show wpAny _ _ (newExc (.type "StopIteration") []>>=_) _ _ _;simp only [newExc,newTuple];refine wpAny_bind (wpAny_bind (wpAny_newObj_type (wpAny_bind (m:=firstArgMember _ _) (wpAny_of_eq (a:=Value.none) (by first | rfl | (simp only [firstArgMember];rfl)) (wpAny_newObj_type ?_ (by size_fits)))) (by size_fits)));simp only [raiseNew];refine wpAny_bind (wpAny_handled ?_)
 first | rw [show A.in1.handled=none from hh] | rw [hh]
 exact wpAny_bind (wpAny_pure (wpAny_throw (q _ _ (((Heap.SameBut.update ..).extBut.push _).push _) ⟨_,Heap.get?_push_size _ rfl,rfl⟩)))
end
section
variable{X:Cx}{elts:List Expr}{k1:Nat}{tpos:Pos}
end
end L2
namespace L2
open PySem PySem.Spec PyProof.Rows
section
variable{prog:Program}{w:World}{A:Around}{E:Value->Shared->Prop}{s:Shared}
theorem GM{zp ti tu j1 j2 t1 t2:Addr}{n1 n2:Nat}{us vs:Array Value}{p q c d:Value}{Q:Value->Shared->Prop}(Ap:ZipApart zp ti tu j1 j2 t1 t2)
 (gz:IsZip s.heap zp ti tu .none) (gi:IsPair s.heap ti (.ref j1) (.ref j2)) (gu:IsPair s.heap tu c d)
 (w1:s.heap.IsTupleIter j1 t1 n1) (w2:s.heap.IsTupleIter j2 t2 n2) (l1:s.heap.IsTuple t1 us) (l2:s.heap.IsTuple t2 vs) (ep:us[n1]?=some p) (eq:vs[n2]?=some q)
 (k:∀h',IsZip h' zp ti tu (rawInt s.heap.objs.size)->IsPair h' tu p q->h'.IsTupleIter j1 t1 (n1+1)->h'.IsTupleIter j2 t2 (n2+1)->IsPair h' s.heap.objs.size p q->
  (10:)->Q (33:) { s with heap:=h' }):
 wpAny (15:) A (Builtin.«zip.__next__» ⟨[.ref zp],[]⟩) (λfin s'=>∃v,fin=.done (.ret v)/\Q v s') E s:=by
 show wpAny _ _ (field (.ref zp) 2>>=_) _ _ _;refine wpAny_bind (wpAny_field gz rfl (x:=.bool false) rfl ?_);show wpAny _ _ (field (.ref zp) 3>>=_) _ _ _;refine wpAny_bind (wpAny_field gz rfl (x:=.ref ti) rfl ?_);refine wpAny_bind (wpAny_seqItems gi rfl ?_);show wpAny _ _ (Builtin.SmallTypes.ownedTupleIsFree (.ref zp)>>=_) _ _ _;refine wpAny_bind ?_;(unfold Builtin.SmallTypes.ownedTupleIsFree);refine wpAny_bind (wpAny_field gz rfl (x:=.none) rfl (wpAny_pure ?_));simp only [if_true];refine wpAny_bind (wpAny_rule (wpAny_bind (wpAny_field gz rfl (x:=.ref tu) rfl ?_)));refine wpAny_bind (wpAny_setField_rec gz (22:) λha aa J=>?_)
 replace aa:IsZip ha zp ti tu .ellipsis:=aa
 refine wpAny_bind ?_;simp only [List.forIn_cons,List.forIn_nil,List.zipIdx_cons,List.zipIdx_nil];refine wpAny_bind (wpAny_bind (wpAny_onRaise ?_));show wpAny _ _ (Builtin.SmallTypes.nextOf (.ref j1)>>=_) _ _ _;refine wpAny_bind (Yb (w1.extBut J.extBut Ap.i1z) (l1.extBut J.extBut Ap.l1z) ep λhb ai sb=>wpAny_pure ?_);have af:IsPair hb tu c d:=sb.extBut _ _ Ap.TOi1 (J.extBut _ _ Ap.TOz gu);refine wpAny_bind (wpAny_seqItems af rfl (wpAny_bind (wpAny_updateSeq_pair af λhc ab sc=>?_)))
 replace ab:IsPair hc tu p d:=ab
 refine wpAny_bind (wpAny_letGo (wpAny_pure (wpAny_bind (wpAny_bind (wpAny_onRaise ?_)))));show wpAny _ _ (Builtin.SmallTypes.nextOf (.ref j2)>>=_) _ _ _;refine wpAny_bind (Yb (((w2.extBut J.extBut Ap.i2z).extBut sb.extBut Ap.i12.symm).extBut sc.extBut Ap.TOi2.symm) (((l2.extBut J.extBut Ap.l2z).extBut sb.extBut Ap.l2i1).extBut sc.extBut Ap.l2TO) eq λhd aj sd=>wpAny_pure ?_);have ag:IsPair hd tu p d:=sd.extBut _ _ Ap.TOi2 ab;refine wpAny_bind (wpAny_seqItems ag rfl (wpAny_bind (wpAny_updateSeq_pair ag λG M se=>?_)))
 replace M:IsPair G tu p q:=M
 refine wpAny_bind (wpAny_letGo (wpAny_pure (wpAny_pure (wpAny_bind (wpAny_seqItems M rfl (wpAny_bind (wpAny_newTuple ?_)))))));have U:G.objs.size=s.heap.objs.size:=by rw [se.1,sd.1,sc.1,sb.1,J.1]
 have ah:IsZip G zp ti tu .ellipsis:=se.extBut _ _ Ap.TOz.symm (sd.extBut _ _ Ap.i2z.symm (sc.extBut _ _ Ap.TOz.symm (sb.extBut _ _ Ap.i1z.symm aa)));have ae:∀b o,b≠zp->b≠tu->b≠j1->b≠j2->s.heap.get? b=some o->G.get? b=some o:=λb o L b2 b3 b4 e=>se.extBut _ _ b2 (sd.extBut _ _ b4 (sc.extBut _ _ b2 (sb.extBut _ _ b3 (J.extBut _ _ L e))));have ak:G.IsTupleIter j1 t1 (n1+1):=((ai.extBut sc.extBut Ap.TOi1.symm).extBut sd.extBut Ap.i12).extBut se.extBut Ap.TOi1.symm;have al:G.IsTupleIter j2 t2 (n2+1):=aj.extBut se.extBut Ap.TOi2.symm;have lz:zp<G.objs.size:=Heap.lt_size ah;show wpAny _ _ (Builtin.SmallTypes.ownedTupleHandOut (.ref zp) (.ref G.objs.size)>>=_) _ _ _;refine wpAny_bind ?_;(unfold Builtin.SmallTypes.ownedTupleHandOut);have am:IsZip (G.push { cls:=.type "tuple",data:=.seq #[p,q] }) zp ti tu .ellipsis:=Heap.get?_push_of_some _ ah;refine wpAny_bind (wpAny_setField_rec am (22:) λhg ac sg=>?_)
 replace ac:IsZip hg zp ti tu (rawInt G.objs.size):=ac
 refine wpAny_setField_rec ac (22:) λhh Y sh=>?_
 replace Y:IsZip hh zp ti tu (rawInt G.objs.size):=Y
 have Z:∀b o,b≠zp->G.get? b=some o->hh.get? b=some o:=λb o L e=>sh.extBut _ _ L (sg.extBut _ _ L (Heap.get?_push_of_some _ e));have ad:IsPair hh G.objs.size p q:=sh.extBut _ _ (Nat.ne_of_gt lz) (sg.extBut _ _ (Nat.ne_of_gt lz) (Heap.get?_push_size _ rfl));rw [U]at Y ad;refine wpAny_pure ⟨_,rfl,?_⟩;show Q (.ref G.objs.size) _;rw [U];exact k hh Y (Z _ _ Ap.TOz M) (ak.at λo e=>Z _ o Ap.i1z e) (al.at λo e=>Z _ o Ap.i2z e) ad λb o L b2 b3 b4 e=>Z b o L (ae b o L b2 b3 b4 e)
theorem LF{zp ti tu j1 j2 t1 t2:Addr}{n1 n2:Nat}{us vs:Array Value}{c d:Value}{Q:Fin->Shared->Prop}(hh:A.handled=none)(Ap:ZipApart zp ti tu j1 j2 t1 t2)
 (gz:IsZip s.heap zp ti tu .none) (gi:IsPair s.heap ti (.ref j1) (.ref j2)) (gu:IsPair s.heap tu c d)
 (w1:s.heap.IsTupleIter j1 t1 n1) (l1:s.heap.IsTuple t1 us) (ep:us[n1]?=none)
 (k:∀h' e,(10:)->(∃o,h'.get? e=some o/\o.cls=.type "StopIteration")->E (.ref e) { s with heap:=h' }):
 wpAny (15:) A (Builtin.«zip.__next__» ⟨[.ref zp],[]⟩) Q E s:=by
 show wpAny _ _ (field (.ref zp) 2>>=_) _ _ _;refine wpAny_bind (wpAny_field gz rfl (x:=.bool false) rfl ?_);show wpAny _ _ (field (.ref zp) 3>>=_) _ _ _;refine wpAny_bind (wpAny_field gz rfl (x:=.ref ti) rfl ?_);refine wpAny_bind (wpAny_seqItems gi rfl ?_);show wpAny _ _ (Builtin.SmallTypes.ownedTupleIsFree (.ref zp)>>=_) _ _ _;refine wpAny_bind ?_;(unfold Builtin.SmallTypes.ownedTupleIsFree);refine wpAny_bind (wpAny_field gz rfl (x:=.none) rfl (wpAny_pure ?_));simp only [if_true];refine wpAny_bind (wpAny_rule (wpAny_bind (wpAny_field gz rfl (x:=.ref tu) rfl ?_)));refine wpAny_bind (wpAny_setField_rec gz (22:) λha G U=>?_)
 replace G:IsZip ha zp ti tu .ellipsis:=G
 refine wpAny_bind ?_;simp only [List.forIn_cons,List.forIn_nil,List.zipIdx_cons,List.zipIdx_nil];refine wpAny_bind (wpAny_bind (wpAny_onRaise ?_));show wpAny _ _ (Builtin.SmallTypes.nextOf (.ref j1)>>=_) _ _ _;refine wpAny_bind (UG hh (w1.extBut U.extBut Ap.i1z) (l1.extBut U.extBut Ap.l1z) ep λhb e Y ge=>?_);obtain⟨oe,J,L⟩:=ge;have M:IsZip hb zp ti tu .ellipsis:=Y _ _ Ap.i1z.symm G;have Z:e≠zp:=λx=>by subst x;rw [M]at J;cases J;simp at L
 refine wpAny_setField_rec M (22:) λhc _ sc=>k hc e (λb o b1 _ b3 _ x=>sc.extBut _ _ b1 (Y _ _ b3 (U.extBut _ _ b1 x))) ⟨oe,sc.extBut _ _ Z J,L⟩
theorem Uh{zp ti tu j1 j2 t1 t2:Addr}{n1 n2:Nat}{us vs:Array Value}{p q c d:Value}{Q:Option Value->Shared->Prop}(Ap:ZipApart zp ti tu j1 j2 t1 t2)
 (gz:IsZip s.heap zp ti tu .none) (gi:IsPair s.heap ti (.ref j1) (.ref j2)) (gu:IsPair s.heap tu c d)
 (w1:s.heap.IsTupleIter j1 t1 n1) (w2:s.heap.IsTupleIter j2 t2 n2) (l1:s.heap.IsTuple t1 us) (l2:s.heap.IsTuple t2 vs) (ep:us[n1]?=some p) (eq:vs[n2]?=some q)
 (k:∀h',IsZip h' zp ti tu (rawInt s.heap.objs.size)->IsPair h' tu p q->h'.IsTupleIter j1 t1 (n1+1)->h'.IsTupleIter j2 t2 (n2+1)->IsPair h' s.heap.objs.size p q->
  (10:)->Q (some (33:)) { s with heap:=h' }):
 wpAny (15:) A (pyNext (.ref zp)) Q E s:=by
 have G:s.TypeIs (.ref zp) "zip":=⟨_,gz,rfl⟩;unfold pyNext;exact wpAny_bind (wpAny_attempt (wpAny_callSpecial?_slot (name:=Str.ofString "__next__") G F.slot_zip_next (wpAny_call_entry F.slot_zip_next G F.entry_zip_next (GM Ap gz gi gu w1 w2 l1 l2 ep eq λh' J a2 L M U Y=>wpAny_pure (k h' J a2 L M U Y)) (F.args_zip_next_1 _))))
theorem UR{zp ti tu j1 j2 t1 t2:Addr}{n1 n2:Nat}{us:Array Value}{c d:Value}{Q:Option Value->Shared->Prop}(hh:A.handled=none)(Ap:ZipApart zp ti tu j1 j2 t1 t2)
 (gz:IsZip s.heap zp ti tu .none) (gi:IsPair s.heap ti (.ref j1) (.ref j2)) (gu:IsPair s.heap tu c d) (w1:s.heap.IsTupleIter j1 t1 n1) (l1:s.heap.IsTuple t1 us) (ep:us[n1]?=none)
 (k:∀h',(10:)->Q none { s with heap:=h' }):wpAny (15:) A (pyNext (.ref zp)) Q E s:=by
 have G:s.TypeIs (.ref zp) "zip":=⟨_,gz,rfl⟩;unfold pyNext;refine wpAny_bind (wpAny_attempt (wpAny_callSpecial?_slot (name:=Str.ofString "__next__") G F.slot_zip_next (wpAny_call_entry F.slot_zip_next G F.entry_zip_next (LF hh (n2:=n2) (vs:=us) Ap gz gi gu w1 l1 ep λh' e J L=>?_) (F.args_zip_next_1 _))));obtain⟨o,M,U⟩:=L;exact wpAny_bind (wpAny_isInstance (T:="StopIteration") (b:=true) ⟨o,M,U⟩ isSubtype_stop (wpAny_pure (k _ J)))
abbrev zT1(h:Heap)(t1:Addr):Heap:=h.push { cls:=.type "tuple_iterator",data:=.fields #[.ref t1,.int 0 0] }
abbrev zT2(h:Heap)(t1 t2:Addr):Heap:=(zT1 h t1).push { cls:=.type "tuple_iterator",data:=.fields #[.ref t2,.int 0 0] }
abbrev zT3(h:Heap)(t1 t2:Addr):Heap:=(zT2 h t1 t2).push { cls:=.type "tuple",data:=.seq #[.ref h.objs.size,.ref (zT1 h t1).objs.size] }
abbrev zT4(h:Heap)(t1 t2:Addr):Heap:=(zT3 h t1 t2).push { cls:=.type "tuple",data:=.seq #[.none,.none] }
abbrev zT5(h:Heap)(t1 t2:Addr):Heap:=(zT4 h t1 t2).push { cls:=.type "zip",data:=.fields #[.none,.bool false,.bool false,.ref (zT2 h t1 t2).objs.size,.ref (zT3 h t1 t2).objs.size] }
theorem MJ(t1 t2:Addr)(us vs:Array Value):
 Meets (Builtin.«zip.__new__» ⟨[.type "zip",.ref t1,.ref t2],[]⟩) (λ_ R s=>s.heap.IsTuple t1 us/\s.heap.IsTuple t2 vs/\
  R (.ok (.ret (.ref (zT4 s.heap t1 t2).objs.size))) { s with heap:=zT5 s.heap t1 t2 }):=
 .of_wp λprog w A R s h=>by
  obtain⟨hp,g,d,tk,G⟩:=s;obtain⟨J,L,h⟩:=h;have M:=sub_zip;have U:Heap.IsTuple (Shared.heap ⟨hp,g,d,tk,G⟩) t1 us:=J;have Y:Heap.IsTuple (Shared.heap ⟨hp.push { cls:=.type "tuple_iterator",data:=.fields #[.ref t1,.int 0 0] },g,d,tk,G⟩) t2 vs:=let⟨o,e,r⟩:=L;⟨o,Heap.get?_push_of_some _ e,r⟩
  wp_walk using wpAny_pyIter_tuple U,wpAny_pyIter_tuple Y
  exact⟨_,rfl,h⟩
theorem G7{t1 t2:Addr}{us vs:Array Value}{Q:Value->Shared->Prop}(l1:s.heap.IsTuple t1 us)(l2:s.heap.IsTuple t2 vs)
 (h:∀h',IsZip h' (s.heap.objs.size+4) (s.heap.objs.size+2) (s.heap.objs.size+3) .none->IsPair h' (s.heap.objs.size+2) (33:) (.ref (16:))->
  IsPair h' (s.heap.objs.size+3) .none .none->h'.IsTupleIter s.heap.objs.size t1 0->h'.IsTupleIter (16:) t2 0->
  (∀c o,s.heap.get? c=some o->h'.get? c=some o)->Q (.ref (s.heap.objs.size+4)) { s with heap:=h' }):
 wpAny (15:) A (call (.type "zip") [.ref t1,.ref t2]) Q E s:=by
 refine callType_new F.called_zip (12:) (F.typeCall_zip_2 _ _) (F.newCall_zip_2 _ _) (λU=>F.args_object_init_3 U _ _) F.entry_zip_new (MJ t1 t2 us vs) ⟨l1,l2,?_⟩;have G:(zT1 s.heap t1).objs.size=s.heap.objs.size+1:=Heap.size_push ..;have J:(zT2 s.heap t1 t2).objs.size=s.heap.objs.size+2:=by rw [Heap.size_push,G]
 have L:(zT3 s.heap t1 t2).objs.size=s.heap.objs.size+3:=by rw [Heap.size_push,J]
 have Y:(zT4 s.heap t1 t2).objs.size=s.heap.objs.size+4:=by rw [Heap.size_push,L]
 have M:(zT5 s.heap t1 t2).get? (zT4 s.heap t1 t2).objs.size=some _:=Heap.get?_push_size _ rfl;have Z:(zT5 s.heap t1 t2).get? (zT3 s.heap t1 t2).objs.size=some _:=Heap.get?_push_of_some _ (Heap.get?_push_size _ rfl);have r3:(zT5 s.heap t1 t2).get? (zT2 s.heap t1 t2).objs.size=some _:=Heap.get?_push_of_some _ (43:);have r2:(zT5 s.heap t1 t2).get? (zT1 s.heap t1).objs.size=some _:=Heap.get?_push_of_some _ (Heap.get?_push_of_some _ (43:));have r1:(zT5 s.heap t1 t2).get? s.heap.objs.size=some _:=Heap.get?_push_of_some _ (Heap.get?_push_of_some _ (Heap.get?_push_of_some _ (43:)));show _/\_;rw [J,L,Y]at M;rw [G,J]at r3;rw [L]at Z;rw [G]at r2;rw [Y];exact⟨⟨_,M,rfl⟩,h _ M r3 Z ⟨_,r1,rfl,rfl⟩ ⟨_,r2,rfl,rfl⟩ λb o x=>Heap.get?_push_of_some _ (Heap.get?_push_of_some _ (Heap.get?_push_of_some _ (Heap.get?_push_of_some _ (Heap.get?_push_of_some _ x))))⟩
end
def La(K:Fg)(a b:Addr)(xs ys:List V):It:=
 ⟨λi H=>SqT K H a xs/\SqT K H b ys/\i<xs.length/\i<ys.length,λi H x H'=>∃p u v,H p=none/\x=.ref p/\H'=upd H p (.tup [u,v])/\xs[i]?=some u/\ys[i]?=some v,λi H=>SqT K H a xs/\xs.length<=i⟩
theorem Lu{P:Program}{w:World}{K:Fg}{elts:List Expr}{k1:Nat}{pos:Pos}(a b z:Addr)(xs ys:List V)(TI TO i1 i2:Addr)(Ap:ZipApart z TI TO i1 i2 a b):
 Turn P w K (.Tuple elts k1 pos) (La K a b xs ys) [z,TI,TO,i1,i2] z (λi h=>IsZip h z TI TO .none/\IsPair h TI (.ref i1) (.ref i2)/\(∃u v,IsPair h TO u v)/\h.IsTupleIter i1 a i/\h.IsTupleIter i2 b i) where
 mem:=by simp
 obj:=λi h st c G=>by
  obtain⟨U,J,⟨u,v,L⟩,h1,h2⟩:=st;simp only [List.mem_cons,List.mem_nil_iff,or_false]at G;rcases G with rfl | rfl | rfl | rfl | rfl
  .exact⟨_,U,λv z=>by have Y:Data.fields _=Data.cell v:=z;cases Y⟩
  .exact⟨_,J,λv z=>by have Y:Data.seq _ _=Data.cell v:=z;cases Y⟩
  .exact⟨_,L,λv z=>by have Y:Data.seq _ _=Data.cell v:=z;cases Y⟩
  .obtain⟨o,e,c,d⟩:=h1;exact(41:)
  .obtain⟨o,e,c,d⟩:=h2;exact(41:)
 keep:=λi h h' st k=>by
  obtain⟨U,J,⟨u,v,L⟩,h1,h2⟩:=st;exact(47:)
 item:=by
  intro X hP hw hK G i pins s σ H E I hf st hg;subst hP hw hK;obtain⟨U,J,⟨u0,v0,L⟩,h1,h2⟩:=st;obtain⟨qa,qb,lx,ly⟩:=hg;obtain⟨its,rv,p,_⟩:=I.tuple qa;obtain⟨ag,ab,p2,_⟩:=I.tuple qb;have ex:xs[i]?=some xs[i]:=List.getElem?_eq_getElem lx;have ey:ys[i]?=some ys[i]:=List.getElem?_eq_getElem ly;obtain⟨u,hu,ru⟩:=rv.get ex;obtain⟨v,hv,ac⟩:=ab.get ey;refine Uh Ap U J L h1 h2 p p2 (p:=u) (q:=v) (by simpa using hu) (by simpa using hv) λh' a1 a2 a3 a4 a5 hk=>?_;refine⟨.ref s.heap.objs.size,rfl,wpAny_letOwnedTupleGo_zip (s:={ s with heap:=h' }) a1 λaa ad M=>?_⟩;have lt:∀{c o},s.heap.get? c=some o->c≠s.heap.objs.size:=λe=>Nat.ne_of_lt (36:);have e5:IsPair aa s.heap.objs.size u v:=(M.2 _ (Ne.symm (lt U))).trans a5;have Z:∀c∈[z,TO,i1,i2],YH X pins H c:=λc G=>hf c (by
   simp only [List.mem_cons,List.mem_nil_iff,or_false]at G ⊢;rcases G with rfl | rfl | rfl | rfl<;>simp)
  have I2:Inv X pins σ (upd H s.heap.objs.size (.tup [xs[i],ys[i]])) { s with heap:=aa,toks:=s.toks }:=by
   refine I.turnedNew (ch:=[z,TO,i1,i2]) (λc o G e=>?_) Z (5:) ⟨by show 2<=sizeLine;decide,[u,v],.cons ru (.cons ac .nil),⟨_,e5,rfl,_,rfl⟩⟩;simp only [List.mem_cons,List.mem_nil_iff,or_false,not_or]at G;exact(M.2 c G.1).trans (hk c o G.1 G.2.1 G.2.2.1 G.2.2.2 e)
  have ae:∀c∈[z,TI,TO,i1,i2],upd H s.heap.objs.size (.tup [xs[i],ys[i]]) c=none:=λc G=>by
   have af:=hf c G;have:c≠s.heap.objs.size:=by
    simp only [List.mem_cons,List.mem_nil_iff,or_false]at G;rcases G with rfl | rfl | rfl | rfl | rfl
    .exact lt U
    .exact lt J
    .exact lt L
    .obtain⟨o,e,_⟩:=h1;exact lt e
    .obtain⟨o,e,_⟩:=h2;exact lt e
   rw [Qh this];exact af.1
  exact⟨.ref s.heap.objs.size,_,I2,rfl,⟨s.heap.objs.size,_,_,I.fresh,rfl,rfl,ex,ey⟩,⟨ad,M.extBut _ _ Ap.TIz (hk _ _ Ap.TIz Ap.TITO Ap.TIi1 Ap.TIi2 J),⟨_,_,M.extBut _ _ Ap.TOz a2⟩,a3.extBut M.extBut Ap.i1z,a4.extBut M.extBut Ap.i2z⟩,ae⟩
 done:=by
  intro X hP hw hK G i pins s σ H E I hf st hg;subst hP hw hK;obtain⟨U,J,⟨u0,v0,L⟩,h1,h2⟩:=st;obtain⟨qa,hl⟩:=hg;obtain⟨its,rv,p,_⟩:=I.tuple qa;have l1:=rv.length;have Z:∀c∈[z,TO,i1,i2],YH X pins H c:=λc G=>hf c (by
   simp only [List.mem_cons,List.mem_nil_iff,or_false]at G ⊢;rcases G with rfl | rfl | rfl | rfl<;>simp)
  refine UR (n2:=0) (I.ok.hd G) Ap U J L h1 p (by simp;lia) λh' hk=>⟨rfl,I.turnedL (t':=s.toks) (ch:=[z,TO,i1,i2]) (λc o G e=>?_) Z⟩;simp only [List.mem_cons,List.mem_nil_iff,or_false,not_or]at G;exact hk c o G.1 G.2.1 G.2.2.1 G.2.2.2 e
 self:=λ_ _ _ _ _ st h=>wpAny_pyIter_zip st.1 h
section
variable{X:Cx}{elts:List Expr}{k1:Nat}{tpos:Pos}
def R8(K:Fg)(ta:TA):TI:=λσ H R=>ta σ H λvs H1=>∃a b xs ys,vs=[.ref a,.ref b]/\SqT K H1 a xs/\SqT K H1 b ys/\R (La K a b xs ys) H1
theorem XO{e1 e2:Expr}{ta:TA}{p pos:Pos}(hg:Gl X "zip")(hm:X.mg "zip"=none)(ha:PA X [e1,e2] ta)(hs:starEach [e1,e2] X.env=[(false,eval e1 X.env),(false,eval e2 X.env)]:=by rfl)(hs2:starEach [e2] X.env=[(false,eval e2 X.env)]:=by rfl):
 PI X (.Tuple elts k1 tpos) (.Call (.Name "zip" p) [e1,e2] [] pos) (R8 X.K ta):=by
 intro pins s σ H R I h;refine Call_ (Z7 I hg hm PyProof.Rows.boot_zip (PyProof.Rows.callWith_type1 (thn (ha pos pins s σ H _ I h) λus G ⟨vs,H1,J,r1,q1⟩=>?_) (by rw [hs,hs2]) (by rw [hs2];rfl)));obtain⟨a,b,xs,ys,e,qa,qb,q⟩:=q1;subst e;obtain⟨u1,u2,e3,r3,r4⟩:=r1.two;subst e3;cases (show u1=Value.ref a from r3);cases (show u2=Value.ref b from r4);obtain⟨its,rv,pl,_⟩:=J.tuple qa;obtain⟨aa,ab,L,_⟩:=J.tuple qb;have la:@LT.lt Nat _ a G.heap.objs.size:=by obtain⟨o,e,_⟩:=pl;exact Heap.lt_size e
 have lb:@LT.lt Nat _ b G.heap.objs.size:=by obtain⟨o,e,_⟩:=L;exact Heap.lt_size e
 refine G7 pl L λh' U Y Z h1 h2 hk=>?_;refine wpAny_pyIter_zip U ?_;have I2:Inv X pins σ H1 { G with heap:=h' }:=J.kept (t':=G.toks) hk;refine⟨G.heap.objs.size+4,[G.heap.objs.size+4,G.heap.objs.size+2,G.heap.objs.size+3,G.heap.objs.size,G.heap.objs.size+1],_,_,H1,rfl,I2,Lu a b (G.heap.objs.size+4) xs ys (G.heap.objs.size+2) (G.heap.objs.size+3) G.heap.objs.size (G.heap.objs.size+1) ?_,⟨U,Y,⟨_,_,Z⟩,h1,h2⟩,λc hc=>?_,q⟩
 .constructor<;>(refine nne ?_;lia)
 .have M:@LE.le Nat _ G.heap.objs.size c:=by
   simp only [List.mem_cons,List.mem_nil_iff,or_false]at hc;rcases hc with rfl | rfl | rfl | rfl | rfl<;>lia
  exact J.fpOk M (J.hok.fresh M)
end
theorem NE{K:Fg}{a b acc:Addr}{xs zs:List V}{tt:TT}{te:TE}{cs:St}{H1:Hp}{Q:Hp->Prop}(hlen:xs.length=zs.length)(Pv:Nat->List V->Hp->Prop)(h0:Pv 0 [] (upd H1 acc (.lst [])))(hl:∀i ys H,i<=xs.length->Pv i ys H->SqT K H a xs/\SqT K H b zs)
 (hs:∀i u v p ys H,i<xs.length->xs[i]?=some u->zs[i]?=some v->H p=none->Pv i ys H->tt (some u::some v::cs) (upd H p (.tup [u,v])) (JN xs.length Pv acc i te (some u::some v::cs))) (hd:∀ys H,Pv xs.length ys H->Q H):Z2 (La K a b xs zs) 2 cs (Lp K 2 (Yd (QP 0) (Yd (QP 1) Vk))) tt te H1 acc Q:=by
 refine Q7 (N:=xs.length) Pv h0 (λys H p=>?_) λi ys H hi p=>?_
 .obtain⟨G,J⟩:=hl _ _ _ (5:) p;exact⟨⟨G,Nat.le_refl _⟩,hd ys H p⟩
 .obtain⟨G,J⟩:=hl _ _ _ (Nat.le_of_lt hi) p;refine⟨⟨G,J,hi,by lia⟩,?_⟩;rintro x Z ⟨q,u,v,M,rfl,rfl,U,Y⟩ as L;obtain⟨a0,a1,rfl⟩:=UV L;exact(55:)
end L2
namespace L2
open PySem PySem.Spec PyProof.Rows
section
variable{prog:Program}{w:World}{A:Around}{E:Value->Shared->Prop}{s:Shared}
theorem VE:typeLookup (.type "list_reverseiterator") "__len__"=pure Option.none:=by rw [typeLookup_type,builtinLookup_eq_fast];kernel_rfl
theorem JP:Slot "list_reverseiterator" "__length_hint__" "list_reverseiterator.__length_hint__":=
 .of (owner:="list_reverseiterator") (n:="__length_hint__") (by rw [typeLookup_type,builtinLookup_eq_fast];kernel_rfl) (0:) (0:) (0:)
  (by first | exact .inl (0:) | exact .inr (0:)) (by rw [isSubtype_type];kernel_rfl)
theorem Ml{r l:Addr}{i:Int}{Q:Bool->Shared->Prop}(hr:s.heap.IsRevIter r l i)(h:Q false s):wpAny (15:) A (Builtin.List.listLengthHint (.ref r)) Q E s:=by
 unfold Builtin.List.listLengthHint;refine wpAny_bind (wpAny_specialOf hr.typeIs VE ?_);show wpAny _ A (specialOf (Value.ref r) (Str.ofString "__length_hint__")>>=_) _ _ _;refine wpAny_bind (wpAny_specialOf hr.typeIs JP.lookup ?_);generalize J:("list_reverseiterator.__length_hint__":String)=L
 wp_delta
 rw [show splitId L=some ("list_reverseiterator","__length_hint__")from by subst J;decide+kernel];subst J;refine wpAny_bind (wpAny_isInstance (T:="list_reverseiterator") (b:=true) hr.typeIs (by rw [isSubtype_type];kernel_rfl) ?_);refine wpAny_ite_split (λG=>absurd G (12:)) (λ_=>?_);refine wpAny_ite_split (λ_=>?_) (λG=>absurd (0:) G);refine wpAny_ite_split (λG=>absurd G (0:)) (λ_=>?_);exact wpAny_pure h
theorem Vz{R:Result->Shared->Prop}{r l:Addr}{items:Array Value}(hh:A.handled=none)(hr:s.heap.IsRevIter r l ((items.size:Int)-1))(hl:s.heap.IsList l items)(hne:l≠r)(hz:items.size<=sizeLine)
 (S:Addr) (res:Value) (c₀:Nat) (hSr:S≠r) (hSl:S≠l) (hS:s.heap.get? S=some { cls:=.type "list",data:=.seq #[] c₀ })
 (hR:∀h' tk acc' c',(∀b o,b≠S->b≠r->s.heap.get? b=some o->h'.get? b=some o)->h'.get? S=some { cls:=.type "list",dict:=none,data:=.seq acc' c',slots:=#[] }->
  ItemsOf (λi v=>items[items.size-1-i]?=some v) acc' items.size->R (.ok (.ret res)) { s with heap:=h',toks:=tk }):
 wpAny (15:) A.in1 (Builtin.List.listExtendWith (.ref S) (.ref r) res)
  (λfin s'=>match fin with | .done f=>R (.ok f) s' | .again c'=>c'.quiet=true/\codeAny (15:) A c' R s') (λe s'=>R (.error e) s') s:=by
 have W:=(Walks.listRev (prog:=prog) (w:=w) (A:=A.in1) hh r l hne items).toS;unfold Builtin.List.listExtendWith;refine wpAny_bind (wpAny_typeOf hr.typeIs ?_);have h1:Builtin.List.listSameRef (.ref S) (.ref r)=false:=by simp [Builtin.List.listSameRef,hSr]
 have h2:(Value.type "list_reverseiterator"==Value.type "list")=false:=by decide
 have Y:(Value.type "list_reverseiterator"==Value.type "tuple")=false:=by decide
 simp only [h1,h2,Y,Bool.or_false,Bool.false_eq_true,if_false];refine wpAny_bind (wpAny_pyIter_revIter hr ?_);refine wpAny_bind (wpAny_holding (Ml hr ?_));refine wpAny_ite_split (λJ=>absurd J (0:)) (λ_=>wpAny_pure ⟨plainId_quiet F.plain_extend_loop _,?_⟩);have Z:(items.size:Int)-1-((0:Nat):Int)=(items.size:Int)-1:=by lia
 refine codeAny_extend_loopS W hz S (by simp [hSr,hSl]) res items.size 0 s #[] c₀ rfl (Nat.zero_le _) ⟨Nat.zero_le _,by rw [Z];exact hr,hl⟩ hS (ItemsOf.nil _) λs' acc' c' L M G=>?_;rw [Moved.eq_with L];refine hR s'.heap s'.toks acc' c' (λb o hb U e=>L.heap b o (λhmem=>?_) e) M G;rcases List.mem_cons.mp hmem with e' | hmem
 .exact hb e'
 .exact U (List.mem_singleton.mp hmem)
theorem LH{Q:Value->Shared->Prop}{r l:Addr}{items:Array Value}(hh:A.handled=none)(hr:s.heap.IsRevIter r l ((items.size:Int)-1))(hl:s.heap.IsList l items)(hne:l≠r)(hz:items.size<=sizeLine)
 (hQ:∀h' tk acc' c',(∀b o,b≠r->s.heap.get? b=some o->h'.get? b=some o)->
  h'.get? s.heap.objs.size=some { cls:=.type "list",dict:=none,data:=.seq acc' c',slots:=#[] }->ItemsOf (λi v=>items[items.size-1-i]?=some v) acc' items.size->Q (33:) { s with heap:=h',toks:=tk }):
 wpAny (15:) A (call (.type "list") [.ref r]) Q E s:=by
 refine callType_codes (Q₁:=λL Y=>L=.ref s.heap.objs.size/\Y={ s with heap:=s.heap.push { cls:=.type "list",data:=.seq #[] } }) F.called_list (F.typeCall_list_1 _) F.entry_list_init
  (code_list_new _ ⟨rfl,rfl⟩) λL Y af=>?_
 obtain⟨rfl,rfl⟩:=af;have J:(s.heap.push { cls:=.type "list",data:=.seq #[] }).get? s.heap.objs.size=some { cls:=.type "list",data:=.seq #[] }:=Heap.get?_push_size _ rfl;refine⟨⟨_,J,rfl⟩,F.args_list_init_2 _ _,?_⟩;obtain⟨ol,Z,ag⟩:=id hl;obtain⟨ah,M,_⟩:=id hr;have aa:s.heap.objs.size≠l:=(Nat.ne_of_lt (Heap.lt_size Z)).symm;have ab:s.heap.objs.size≠r:=(Nat.ne_of_lt (Heap.lt_size M)).symm;show wpAny _ _ (do let ac <-Builtin.List.listItems (33:);Builtin.List.listUpdate (33:) (λ_=>#[]);letGo ac.toList.reverse;Builtin.List.listExtendWith (33:) (.ref r) .none) _ _ _;refine wpAny_bind ?_;unfold Builtin.List.listItems;refine wpAny_bind (wpAny_seqItems J rfl (wpAny_pure ?_));show wpAny _ _ (updateSeq s.heap.objs.size (λ_=>#[])>>=λ_=>letGo (#[]:Array Value).toList.reverse>>=λ_=>Builtin.List.listExtendWith (33:) (.ref r) .none) _ _ _;refine wpAny_bind (wpAny_updateSeq J rfl ?_);have ad:=Heap.get?_update_self (Obj.mapSeq (λ_=>(#[]:Array Value))) J rfl;have G:∀b o,s.heap.get? b=some o->((s.heap.push { cls:=.type "list",data:=.seq #[] }).update s.heap.objs.size (Obj.mapSeq (λ_=>(#[]:Array Value)))).get? b=some o:=
  λb o e=>(Heap.get?_update_other _ _ (Nat.ne_of_lt (36:)).symm).trans (Heap.get?_push_of_some _ e)
 refine wpAny_bind (wpAny_letGo ?_);refine Vz (A:=A.in1) hh (hr.at (G r)) (hl.at (G l)) hne hz s.heap.objs.size .none _ ab aa ad λh' tk acc' c' hk ae U=>?_;exact⟨rfl,hQ h' tk acc' c' (λb o hb e=>hk b o (Nat.ne_of_lt (36:)) hb (G b o e)) ae U⟩
end
section
variable{X:Cx}{e:Expr}{te:TE}{p pos p2 pos2:Pos}
def R5(K:Fg)(te:TE):TE:=λσ H Q=>te σ H λv H1=>∃(l:Addr)(ys:List V),v=.ref l/\SqL K H1 l ys/\ys.length<=sizeLine/\∀d,H1 d=none->Q (.ref d) (upd H1 d (.lst ys.reverse))
theorem Wg:∀{ys:List V}{us:List Value},Vals ys us->Vals ys.reverse us.reverse
 | [],_,.nil=>.nil
 | y::ys,_,.cons r rr=>by
  rw [List.reverse_cons,List.reverse_cons];exact(Wg rr).append (.cons r .nil)
theorem G6{its:List Value}{acc:Array Value}(h:ItemsOf (λi v=>its.toArray[its.toArray.size-1-i]?=some v) acc its.toArray.size):acc=its.reverse.toArray:=by
 obtain⟨h1,h2⟩:=h;apply Array.ext';apply List.ext_getElem?;intro i
 by_cases hi:i<acc.size
 .have J:=h2 i acc[i] (Array.getElem?_eq_getElem hi);have G:i<its.length:=by rw [h1]at hi;simpa using hi
  simp only [List.size_toArray,List.getElem?_toArray]at J;rw [Array.getElem?_toList,Array.getElem?_eq_getElem hi];show some acc[i]=its.reverse[i]?;rw [List.getElem?_reverse G,J]
 .have G:¬i<its.length:=by rw [h1]at hi;simpa using hi
  rw [Array.getElem?_toList,Array.getElem?_eq_none (3:)];show Option.none=its.reverse[i]?;rw [List.getElem?_eq_none (by rw [List.length_reverse];lia)]
theorem VN(hc:X.calm=true)(he:PE X e te)(hg:Gl X "list":=by rfl)(hm:X.mg "list"=Option.none)(hg2:Gl X "reversed":=by rfl)(hm2:X.mg "reversed"=Option.none)
 (hs1:starEach [e] X.env=[(false,eval e X.env)]:=by rfl) (hs2:starEach [Expr.Call (.Name "reversed" p2) [e] [] pos2] X.env=[(false,eval (Expr.Call (.Name "reversed" p2) [e] [] pos2) X.env)]:=by rfl):
 PE X (.Call (.Name "list" p) [.Call (.Name "reversed" p2) [e] [] pos2] [] pos) (R5 X.K te):=by
 intro pins s σ H Q I h;refine wpAny_Call_Name_kw (Z7 I hg hm boot_list ?_);refine PyProof.Rows.callWith_type1 ?_ hs2 rfl;rw [hs2];show wpAny _ _ (spliced ((false,eval _ X.env)::[])) _ _ s;refine Calls.spliced_cons ?_;refine wpAny_Call_Name_kw (Z7 I hg2 hm2 boot_reversed ?_);refine PyProof.Rows.callWith_type1 ?_ hs1 rfl;rw [hs1];show wpAny _ _ (spliced ((false,eval _ X.env)::[])) _ _ s;refine Calls.spliced_cons (thn (he pins s σ H _ I h) λu G ⟨v,H1,J,r1,q1⟩=>?_);refine Calls.spliced_nil ?_;obtain⟨l,ys,rfl,hl,hz,q⟩:=q1;obtain rfl:u=Value.ref l:=r1;obtain⟨its,Y,pl,_⟩:=J.list hl;have ac:=Y.length;have M:G.heap.IsList l its.toArray:=pl.isList;refine call_reversed_list M ?_;refine Calls.spliced_nil ?_;obtain⟨ol,Z,_⟩:=id M;have aa:=Heap.lt_size Z;have kp:∀b o,G.heap.get? b=some o->(G.heap.push (revObj l ((its.toArray.size:Int)-1))).get? b=some o:=λb o e=>Heap.get?_push_of_some _ e;refine LH (J.ok.hd hc) (r:=G.heap.objs.size) ⟨_,Heap.get?_push_size _ rfl,rfl,rfl⟩ (M.at (kp l)) (Nat.ne_of_lt aa) (by rw [List.size_toArray];lia) λh' tk ad c' k ab U=>?_;have ea:=G6 U;have L:G.heap.objs.size<=(G.heap.push (revObj l ((its.toArray.size:Int)-1))).objs.size:=by
  rw [Heap.size_push];lia
 refine⟨.ref _,_,J.laid (t':=tk) (λb o e=>k b o (Nat.ne_of_lt (36:)) (kp b o e)) L (show ObjOk X.prog X.w _ h' _ (.lst ys.reverse)from⟨by rw [List.length_reverse];exact hz,its.reverse,c',Wg Y,by rw [<-ea];exact ab⟩),rfl,q _ (J.hok.fresh L)⟩
theorem JV(hc:X.calm=true):QV X (.builtin "sum") (λxs H Q=>∃(l:Addr)(ns:List Int),xs=[.ref l]/\SqL X.K H l (ns.map V.int)/\Q (.int ns.sum) H):=by
 intro pins s σ H xs us Q I r h;obtain⟨l,ns,rfl,J,q⟩:=h;cases r with
 | cons r L=>
  cases L;obtain rfl:_=Value.ref l:=r;obtain⟨its,M,p,_⟩:=I.list J;obtain⟨ys,rfl,G⟩:=U7 M;have U:s.heap.IsList l (intItems ys.toArray):=by rw [Lb];exact p.isList
  refine sum_intListG (I.ok.hd hc) U λh' tk Y Z=>⟨.int ns.sum,H,I.kept (t':=tk) Z,⟨Y,?_⟩,q⟩;rw [OI,G,List.take_of_length_le];rw [<-G];simp
theorem JZ(c:Nat):∀(k:Nat)(acc:List Nat),List.foldl (λx1 x2=>x1++x2) acc.toArray (List.replicate k (S [c]).cps)=(acc++List.replicate k c).toArray
 | 0,acc=>by simp
 | k+1,acc=>by
  have e:acc.toArray++(S [c]).cps=(acc++[c]).toArray:=by simp [S]
  rw [List.replicate_succ,List.foldl_cons,e,JZ c k (acc++[c]),List.replicate_succ];simp
theorem VM:OpR X (binaryOp .Mult) (λx y H Q=>∃(c:Nat)(n:Int),x=.str (S [c])/\y=.int n/\1<=n/\n<=100/\Q (.str (S (List.replicate n.toNat c))) H):=by
 intro pins s σ H x y v u Q I L M h;obtain⟨c,n,rfl,rfl,h1,h2,q⟩:=h;obtain⟨t,rfl⟩:=L;obtain⟨U,rfl⟩:=M;have G:(S [c]).length=1:=GI _;refine P.mul_str ?_ (λ_ _=>?_) (λ_ _=>?_) ?_
 .rw [decide_eq_false (3:),decide_eq_false (3:)];rfl
 .rw [G];have:(1:Int)<=(2^63-1)/n:=(Int.le_ediv_iff_mul_le (3:)).mpr (3:);show ¬(1:Int)>_;lia
 .rw [G,Nat.one_mul];have Y:n.toNat<=100:=by lia
  unfold Builtin.Str.tooLong;simp only [decide_eq_false_iff_not];rw [sizeLine_eq];lia
 .rw [if_neg (3:)]
  by_cases J:n=1
  .subst J;rw [if_pos (22:)];exact⟨.str (S [c]),H,I,⟨_,rfl⟩,q⟩
  .rw [if_neg (by simp [J,G])];have e:=JZ c n.toNat [];rw [List.nil_append]at e;refine⟨?_,.str _,H,I.tok _,⟨_,rfl⟩,?_⟩
   .rw [e];show(List.replicate n.toNat c).toArray.size<=_;simp only [List.size_toArray,List.length_replicate];rw [sizeLine_eq];lia
   .rw [e];exact q
end
end L2
namespace TM
inductive Tree(α:Type) where
 | node (name:α) (mark:Int) (bs:List (Tree α))
variable{α:Type}
def Tree.bs:Tree α->List (Tree α)
 | .node _ _ bs=>bs
def atT:Tree α->List Int->Option (Tree α)
 | t,[]=>some t
 | t,i::r=>if 0<=i then(match t.bs[i.toNat]? with
  | some b=>atT b r
  | none=>none)else none
structure Rows(α:Type) where
 n:Nat
 nm:Nat->α
 mr:Nat->Int
 up:Nat->Nat
variable{R:Rows α}
section
variable{K:Nat->List Int}{B:Nat->Tree α}{o0:Tree α}
def it(R:Rows α):Nat->Nat->Nat
 | 0,s=>s
 | j+1,s=>R.up (it R j s)
variable{B':Nat->Tree α}{o:Tree α}{s:Nat}
end
end TM
namespace L2
open PySem PySem.Spec PyProof.Rows TM
mutual
inductive TrV(K:Fg)(H:Hp):V->Tree Str->Prop where
 | mk {a b:Addr} {vs:List V} {ts:List (40:)} {name:Str} {mark:Int}:SqT K H a [.str name,.int mark,.ref b]->SqT K H b vs->TrAll K H vs ts->vs.length<=1000->TrV K H (.ref a) (.node name mark ts)
inductive TrAll(K:Fg)(H:Hp):List V->List (40:)->Prop where
 | nil:TrAll K H [] []
 | cons {v:V} {vs:List V} {t:Tree Str} {ts:List (40:)}:TrV K H v t->TrAll K H vs ts->TrAll K H (v::vs) (t::ts)
end
mutual
theorem TrV.mono{K:Fg}{H H':Hp}(k:∀a xs,SqT K H a xs->SqT K H' a xs):∀{v:V}{t:Tree Str},TrV K H v t->TrV K H' v t
 | _,_,.mk h1 h2 G J=>.mk (k _ _ h1) (k _ _ h2) (TrAll.mono k G) J
theorem TrAll.mono{K:Fg}{H H':Hp}(k:∀a xs,SqT K H a xs->SqT K H' a xs):∀{vs:List V}{ts:List (40:)},TrAll K H vs ts->TrAll K H' vs ts
 | _,_,.nil=>.nil
 | _,_,.cons h t=>.cons (TrV.mono k h) (TrAll.mono k t)
end
theorem TrAll.length{K:Fg}{H:Hp}:∀{vs:List V}{ts:List (40:)},TrAll K H vs ts->vs.length=ts.length
 | _,_,.nil=>rfl
 | _,_,.cons _ t=>by rw [List.length_cons,List.length_cons,TrAll.length t]
theorem TrAll.get{K:Fg}{H:Hp}:∀{vs:List V}{ts:List (40:)}{i:Nat}{t:Tree Str},TrAll K H vs ts->ts[i]?=some t->∃v,vs[i]?=some v/\TrV K H v t
 | _,_,_,_,.nil,e=>by simp at e
 | _,_,0,_,.cons h _,e=>by simp at e;subst e;exact⟨_,rfl,h⟩
 | _,_,i+1,t,.cons _ r,e=>by
  obtain⟨v,h1,h2⟩:=TrAll.get (i:=i) (t:=t) r (by simpa using e);exact⟨v,by simpa using h1,h2⟩
theorem TrAll.append{K:Fg}{H:Hp}:∀{vs ws:List V}{ts us:List (40:)},TrAll K H vs ts->TrAll K H ws us->TrAll K H (vs++ws) (ts++us)
 | _,_,_,_,.nil,h=>h
 | _,_,_,_,.cons a t,h=>.cons a (TrAll.append t h)
theorem SqT.put{K:Fg}{H:Hp}{a d:Addr}{xs ys:List V}{o:HO}(h:SqT K H a xs)(hd:H d=some (.lst ys)):SqT K (upd H d o) a xs:=by
 rcases h with(h | ⟨G,h⟩) | h
 .exact .inl (.inl (by rw [Qh (Q3 h hd (31:))];exact h))
 .exact .inl (.inr ⟨G,by rw [Qh (Q3 h hd (31:))];exact h⟩)
 .exact .inr h
end L2
namespace TM
variable{α:Type}
mutual
noncomputable def sz:Tree α->Nat
 | .node _ _ bs=>1+szs bs
noncomputable def szs:List (Tree α)->Nat
 | []=>0
 | t::r=>sz t+szs r
end
mutual
noncomputable def lv:Tree α->Nat
 | .node _ _ bs=>1+lvs bs
noncomputable def lvs:List (Tree α)->Nat
 | []=>0
 | t::r=>max (lv t) (lvs r)
end
mutual
noncomputable def pl:Tree α->List (List Int)
 | .node _ _ bs=>[]::pls 0 bs
noncomputable def pls:Nat->List (Tree α)->List (List Int)
 | _,[]=>[]
 | i,t::r=>(pl t).map (List.cons (i:Int))++pls (i+1) r
end
theorem Q4(t:Tree α):lv t=1+lvs t.bs:=by cases t;simp [lv,Tree.bs]
theorem Yg{ts:List (Tree α)}{t:Tree α}(h:t∈ts):lv t<=lvs ts:=by
 induction ts with
 | nil=>cases h
 | cons u r G=>
  simp only [lvs];rcases List.mem_cons.mp h with rfl | h
  .lia
  .have:=G h;lia
mutual
theorem XI:∀(t:Tree α)(p:List Int),p∈pl t->p.length<lv t
 | .node a m bs,p,h=>by
  simp only [pl,List.mem_cons]at h;simp only [lv];rcases h with rfl | h
  .simp;lia
  .have:=Gh 0 bs p h;lia
theorem Gh:∀(j:Nat)(ts:List (Tree α))(p:List Int),p∈pls j ts->p.length<=lvs ts
 | j,[],p,h=>by simp [pls]at h
 | j,u::ts,p,h=>by
  simp only [pls,List.mem_append,List.mem_map]at h;simp only [lvs];rcases h with⟨q,G,rfl⟩ | h
  .have:=XI u q G;simp;lia
  .have:=Gh (j+1) ts p h;lia
end
open HT (OM)
variable{R:Rows α}{K:Nat->List Int}{B:Nat->Tree α}{o0:Tree α}
end TM
namespace ST
open PySem TM
inductive Stp where
 | op:Stp
 | put:Str->Int->List Stp->Stp
mutual
noncomputable def met:Stp->Stp->Stp
 | .op,_=>.op
 | .put _ _ _,.op=>.op
 | .put n m ps,.put n' m' qs=>if n=n'/\m=m'/\ps.length=qs.length then .put n m (Sz ps qs)else .op
noncomputable def Sz:List Stp->List Stp->List Stp
 | [],_=>[]
 | _::_,[]=>[]
 | p::ps,q::qs=>met p q::Sz ps qs
end
mutual
noncomputable def sl:Stp->Nat
 | .op=>1
 | .put _ _ ps=>1+sls ps
noncomputable def sls:List Stp->Nat
 | []=>0
 | p::r=>max (sl p) (sls r)
end
end ST
namespace L2
open PySem PyProof.Rows TM ST
abbrev SY:Str:=Str.ofString "open"
abbrev TD:Str:=Str.ofString "put"
mutual
noncomputable def sd:Stp->PyData
 | .op=>.tuple [.str SY]
 | .put n m ps=>.tuple [.str TD,.str n,.int m,.tuple (sds ps)]
noncomputable def sds:List Stp->List PyData
 | []=>[]
 | p::r=>sd p::sds r
end
def hd3(n:Str)(m:Int)(k:Nat):PyData:=.tuple [.str n,.int m,.int (k:Int)]
def Dk(H:Hp)(d:Addr):Prop:=∃xs:List Int,H d=some (.lst (xs.map V.int))
def SameD(d:Addr)(H H':Hp):Prop:=∀b u,b≠d->H b=some u->H' b=some u
theorem SameD.refl(d:Addr)(H:Hp):SameD d H H:=λ_ _ _ e=>e
theorem SameD.trans{d:Addr}{H H1 H2:Hp}(a:SameD d H H1)(b:SameD d H1 H2):SameD d H H2:=λx u n e=>b x u n (a x u n e)
theorem SameD.of{d:Addr}{H H':Hp}(h:Same H H'):SameD d H H':=λb u _ e=>h b u e
theorem SameD.seqT{K:Fg}{d a:Addr}{H H':Hp}{xs:List V}(g:SameD d H H')(hd:Dk H d)(h:SqT K H a xs):SqT K H' a xs:=by
 obtain⟨J,hd⟩:=hd;rcases h with(h | ⟨G,h⟩) | h
 .exact .inl (.inl (g _ _ (Q3 h hd (31:)) h))
 .exact .inl (.inr ⟨G,g _ _ (Q3 h hd (31:)) h⟩)
 .exact .inr h
theorem Dk.same{d:Addr}{H H':Hp}(h:Dk H d)(g:Same H H'):Dk H' d:=by
 obtain⟨xs,h⟩:=h;exact⟨xs,g _ _ h⟩
theorem Dk.ne{d a:Addr}{H:Hp}(h:Dk H d)(ha:H a=none):a≠d:=by
 obtain⟨xs,h⟩:=h;rintro rfl;rw [ha]at h;cases h
theorem Dk.upd{d a:Addr}{H:Hp}{o:HO}(h:Dk H d)(ha:a≠d):Dk (upd H a o) d:=by
 obtain⟨xs,h⟩:=h;exact⟨xs,by rw [Qh (Ne.symm ha)];exact h⟩
end L2
namespace L2
open PySem PyProof.Rows TM
abbrev Lv:Str:=Str.ofString "abcdefghijklmnopqrstuvwxyz"
def Oc:List Nat:=[97,98,99,100,101,102,103,104,105,106,107,108,109,110,111,112,113,114,115,116,117,118,119,120,121,122]
theorem L4:Lv=S Oc:=by decide+kernel
theorem NS:Lv.cps.toList=Oc:=by rw [L4,Mb]
theorem Ot:Str.ofString ""=S []:=by decide+kernel
theorem OY(c:Nat):(⟨#[c]⟩:Str)=S [c]:=rfl
def Nm(z:Str):Prop:=PyData.strOk z=true
theorem Nm.of{u:List Nat}(h:∀c∈u,c<128):Nm (S u):=by
 unfold Nm PyData.strOk;rw [Array.all_eq_true_iff_forall_mem];intro c G;have:c∈u:=by simpa [S]using G
 have:=h c this;simp;lia
theorem Wr{K:Fg}{a b:Addr}{xs ys:List V}{g:TG}{tb:TS}{D:Ends}{σ:St}{H:Hp}(hlen:xs.length=ys.length)(Pv:Nat->St->Hp->Prop)(h0:Pv 0 σ H)(hl:∀i σ H,i<=xs.length->Pv i σ H->SqT K H a xs/\SqT K H b ys)
 (hs:∀i u v p σ H,xs[i]?=some u->ys[i]?=some v->H p=none->Pv i σ H->g (.ref p) σ (upd H p (.tup [u,v])) λσ2 H2=>tb { D with nx:=Pv (i+1),ct:=Pv (i+1),bk:=D.nx } σ2 H2) (hd:∀σ H,Pv xs.length σ H->D.nx σ H):
 ∃W:Nat->Nat->St->Hp->Prop,(∃m,W 0 m σ H)/\∀i m σ H,W i m σ H->
  ((La K a b xs ys).stop i H/\D.nx σ H)\/((La K a b xs ys).go i H/\∃N:St->Hp->Prop,(38:)/\∀x H',(La K a b xs ys).yld i H x H'->g x σ H' λσ2 H2=>tb { D with nx:=N,ct:=N,bk:=D.nx } σ2 H2):=by
 refine⟨λi m σ H=>m=xs.length-i/\i<=xs.length/\Pv i σ H,⟨xs.length-0,rfl,Nat.zero_le _,h0⟩,?_⟩;rintro i m σ H ⟨rfl,hi,p⟩;obtain⟨G,J⟩:=hl i σ H hi p
 by_cases h:i<xs.length
 .refine .inr ⟨⟨G,J,h,by lia⟩,Pv (i+1),λσ' H' L=>⟨xs.length-(i+1),by lia,rfl,h,L⟩,?_⟩;rintro x H' ⟨q,u,v,M,rfl,rfl,U,Y⟩;exact hs i u v q σ H U Y M p
 .have e:i=xs.length:=by lia
  subst e;exact .inl ⟨⟨G,Nat.le_refl _⟩,hd σ H p⟩
theorem Room.fit{k n:Nat}{A:Around}(r:Room k A)(h:n<=64):A.units+n<cLine:=by have:=r.units;lia
theorem Mm(xs:List Int):PyData.eqv (.list (xs.map PyData.int)) (.list [])=xs.isEmpty:=by
 cases xs<;>simp [PyData.eqv,PyData.eqvAll]
end L2
namespace L2
open PySem PyProof.Rows TM
def Zy(x:Int):Nat:=97+(x%26).toNat
theorem L3:∀i:Fin 26,Oc[i.val]?=some (97+i.val):=by decide
theorem V8(x:Int):atI Lv.cps.toList (x%26)=some (Zy x):=by
 have G:0<=x%26:=Int.emod_nonneg _ (12:);have h1:x%26<26:=Int.emod_lt_of_pos _ (12:);have e:x%26=(((x%26).toNat:Nat):Int):=by lia
 rw [e,NS];exact QB (L3 ⟨(x%26).toNat,by lia⟩)
theorem WF(x:Int):Zy x<128:=by
 have h1:x%26<26:=Int.emod_lt_of_pos _ (12:);unfold Zy;lia
theorem JW{x y:Int}(h:Zy x=Zy y):x%26=y%26:=by
 have G:0<=x%26:=Int.emod_nonneg _ (12:);have h1:0<=y%26:=Int.emod_nonneg _ (12:);unfold Zy at h;lia
def nmL(c k:Int):List Nat:=
 if c/1664%3=2 then List.replicate (1+k%8).toNat (Zy (c/64%26+k/8))
 else(List.range (1+c%8).toNat).map λ(j:Nat)=>Zy (44:)
theorem O3(c k:Int):∀x∈nmL c k,x<128:=by
 intro x G;unfold nmL at G;split at G
 .rw [List.eq_of_mem_replicate G];exact WF _
 .obtain⟨j,_,rfl⟩:=List.mem_map.mp G;exact WF _
theorem OD{c k k':Int}(h0:0<=k)(h1:k<26)(h0':0<=k')(h1':k'<26)(e:nmL c k=nmL c k'):k=k':=by
 unfold nmL at e;split at e
 .have l:=congrArg List.length e;rw [List.length_replicate,List.length_replicate]at l;have M:0<=k%8:=Int.emod_nonneg _ (12:);have U:0<=k'%8:=Int.emod_nonneg _ (12:);have G:Zy (c/64%26+k/8)∈List.replicate (1+k'%8).toNat (Zy (c/64%26+k'/8)):=by
   rw [<-e];exact List.mem_replicate.mpr ⟨by lia,rfl⟩
  have:=JW (List.eq_of_mem_replicate G);lia
 .have Y:0<=c%8:=Int.emod_nonneg _ (12:);have Z:0<=c/8%(1+c%8):=Int.emod_nonneg _ (3:);have t1:c/8%(1+c%8)<1+c%8:=Int.emod_lt_of_pos _ (3:);have J:(c/8%(1+c%8)).toNat<(1+c%8).toNat:=by lia
  have g:=congrArg (λl:List Nat=>l[(c/8%(1+c%8)).toNat]?) e;simp only [List.getElem?_map,List.getElem?_range J,Option.map_some,Option.some.injEq]at g;have L:(((c/8%(1+c%8)).toNat:Nat):Int)=c/8%(1+c%8):=by lia
  rw [L,if_pos rfl,if_pos rfl]at g;have:=JW g;generalize c/1664%3*(c/8%(1+c%8))=z at this;lia
abbrev nmS(c k:Int):Str:=S (nmL c k)
theorem Z4(c k:Int):PyData.strOk (nmS c k)=true:=Nm.of (O3 c k)
theorem Gi{c k k':Int}(h0:0<=k)(h1:k<26)(h0':0<=k')(h1':k'<26)(e:nmS c k=nmS c k'):k=k':=OD h0 h1 h0' h1' (Rs e)
end L2
namespace K70
open PySem L2 TM ST
def top(i:Nat):Stmt:=PySem.Challenge.pw_turnery_k70_wants_handed_on.main.body.getD i (.Pass ⟨0,0,0,0⟩)
abbrev O6:Stmt:=top 15
abbrev MH:Stmt:=top 16
abbrev LO:Stmt:=top 17
abbrev M5:Stmt:=top 18
structure Gm(mg:Str->Option Value):Prop where
 len:mg "len"=none
 isi:mg "isinstance"=none
 int:mg "int"=none
 boo:mg "bool"=none
 str:mg "str"=none
 tup:mg "tuple"=none
 lst:mg "list"=none
 rng:mg "range"=none
 sum:mg "sum"=none
 rev:mg "reversed"=none
 zip:mg "zip"=none
 all:mg "all"=none
 enu:mg "enumerate"=none
 srt:mg "sorted"=none
 dct:mg "dict"=none
abbrev NI(ns:List Int):List V:=ns.map V.int
def GC(K:Fg):Sp:=λvs H Q _=>∃(a:Addr)(ns:List Int),vs=[.ref a,.int 1000]/\SqL K H a (NI ns)/\ns.length<=63/\∀(d:Addr)(H':Hp),Same H H'->H d=none->Dk H' d->Q (.ref d) H'
def QZ:Sp:=λvs H Q _=>∃(d:Addr)(m:Int),vs=[.ref d,.int m]/\Dk H d/\0<m/\∀(r:Int)(H':Hp),SameD d H H'->Dk H' d->0<=r->r<m->Q (.int r) H'
def Yq:Sp:=λvs H Q _=>∃(d:Addr),vs=[.ref d]/\Dk H d/\∀(r:Int)(H':Hp),SameD d H H'->Dk H' d->Q (.int r) H'
def ZC:Sp:=λvs H Q _=>∃(c k:Int),vs=[.int c,.int k]/\Q (.str (nmS c k)) H
section
variable{P:Program}{w:World}{K:Fg}{mg:Str->Option Value}{base:Heap}{f:Addr}{fd:FuncData}
theorem Pz:FnScope ["_law_deck","_law_most"] ["_law_deck","_law_most"] (defScope MH):=(1:)
theorem NF(F:Fun K "_law_draw" "_law_draw" MH f fd):FnOk P w K mg base CX0 1 f fd ["_law_deck","_law_most"] QZ:=by
 refine F.ok Pz (7:) (λaa A outer s H vs Q E U h=>?_)
 .obtain⟨d,m,rfl,_⟩:=h
  rfl
 obtain⟨d,m,rfl,⟨xs,L⟩,J,q⟩:=h;refine⟨_,(Qf (QC (Qr Jf (pv 0) (QY Qc) (Qu _)) (Qg (Ql Qd)) Qq)
  (Qg (Ql (Qs Zb (LY PySem.F.plainAttrs_list PySem.F.slot_list_pop PySem.F.type_list_pop Pn (pv 0)) (pv 1))))),?_⟩
 refine⟨_,rfl,(21:),λp hp=>?_⟩;have g:=Qe hp (.lst []);have G:=g _ _ L;have ab:p≠d:=λz=>by rw [z,L]at hp;cases hp
 refine⟨.list (xs.map PyData.int),.list [],.lst (SqL.of G) (Gv xs),.lst (SqL.of Qb) .nil,(by simp only [PyData.canLay0,Wf]),(12:),?_,_,rfl,?_⟩
 .have h2:min (PyData.depth (.list (xs.map PyData.int))) (PyData.depth (.list []))<=1:=Nat.le_trans (Nat.min_le_right _ _) (by simp [PyData.depth,PyData.depthAll]);exact U.fit (Nat.le_trans h2 (12:))
 rw [if_neg Bool.false_ne_true,Mm];cases xs with
 | nil=>exact QU (q 0 _ (SameD.of g) ⟨[],G⟩ (Int.le_refl _) J)
 | cons x r=>
  refine Zc ?_;obtain⟨y,Y⟩: ∃y:Int,(x::r)[(x::r).length-1]?=some y:=⟨_,List.getElem?_eq_getElem (22:)⟩;have M:(NI (x::r))[(NI (x::r)).length-1]?=some (.int y):=by
   rw [List.length_map,List.getElem?_map,Y];rfl
  refine⟨_,rfl,.inl ⟨rfl,_,SqL.of G⟩,d,_,_,rfl,rfl,G,M,_,rfl,_,_,rfl,rfl,J,?_⟩;refine q _ _ (λb u Z e=>by rw [Qh Z];exact g _ _ e) ⟨(x::r).dropLast,by rw [Qb,List.map_dropLast]⟩ (Int.emod_nonneg _ (3:)) (Int.emod_lt_of_pos _ J)
end
end K70
namespace K70
open PySem L2 TM ST
section
variable{P:Program}{w:World}{K:Fg}{mg:Str->Option Value}{base:Heap}{f:Addr}{fd:FuncData}
theorem Ma:FnScope ["_law_deck","_law_number"] ["_law_deck"] (defScope LO):=(1:)
theorem NH(F:Fun K "_law_mark" "_law_mark" LO f fd)(RD:Fn P w K mg base 1 "_law_draw" ["_law_deck","_law_most"] QZ):FnOk P w K mg base CX0 2 f fd ["_law_deck"] Yq:=by
 refine F.ok Ma (7:) (λU A outer s H vs Q E L h=>?_)
 .obtain⟨d,rfl,_⟩:=h
  rfl
 obtain⟨d,rfl,M,q⟩:=h;refine⟨_,(Qf (Qo (i:=1) Ma.nd rfl (9:) (Qp RD L (Qa (pv 0) (Qa (Qs Jn Qd Qd) Qc))))
  (Qf (QC (Qr Za (Qs Zb (pv 1) Qd) Qd (Qu _)) (Qg (Ql (Qs YW (Qs Zb (Qs Zu (pv 1) Qd) (Qs Q6 (Qs Z8 Qd (Qs Jn Qd Qd)) Qd)) (Qs Jn Qd Qd)))) Qq)
  (Qg (Ql (Qs Zu (Qs Zb (Qs Zu (pv 1) Qd) Qd) Qd))))),?_⟩
 refine⟨_,rfl,_,_,rfl,rfl,⟨by decide,by decide,by decide⟩,d,_,rfl,M,(12:),λr H1 J G Y h1=>?_⟩;refine⟨_,rfl,_,_,rfl,rfl,(by show(0:Int)<4;decide),rfl,_,rfl,UP (λ_=>?_) (λ_=>?_)⟩
 .refine⟨_,rfl,_,_,rfl,rfl,(37:),_,_,rfl,rfl,⟨by decide,by decide,by decide⟩,_,_,rfl,rfl,.inl (37:),_,_,rfl,rfl,_,_,rfl,rfl,(by show(0:Int)<2*10^57+1;decide),_,_,rfl,rfl,⟨by decide,by decide,by decide⟩,_,_,rfl,rfl,?_⟩;exact q _ H1 J G
 .refine⟨_,rfl,_,_,rfl,rfl,(37:),_,_,rfl,rfl,(by show(0:Int)<3;decide),_,_,rfl,rfl,(37:),?_⟩;exact q _ H1 J G
theorem ZW:FnScope ["_law_code","_law_k","_law_letters","_law_first","_law_long","_law_told_here","_law_name_here","_law_j","_law_step"] ["_law_code","_law_k"] (defScope M5):=(1:)
theorem N3(F:Fun K "_law_name" "_law_name" M5 f fd)(G:Gm mg):FnOk P w K mg base CX0 1 f fd ["_law_code","_law_k"] ZC:=by
 refine F.ok ZW (7:) (λac A outer s H vs Q E hr h=>?_)
 .obtain⟨c,k,rfl,_⟩:=h
  rfl
 obtain⟨c,k,rfl,q⟩:=h;refine⟨_,(Qf (Qo (i:=2) ZW.nd rfl (9:) Zr)
  (Qf (Qo (i:=3) ZW.nd rfl (9:) (Qs Zb (Qs Zu (pv 0) Qd) Qd))
  (Qf (QC (Qr Za (Qs Zb (Qs Zu (pv 0) Qd) Qd) Qd (Qu _)) (Qg (Ql (Qs VM (Qk MS (pv 2) (Qs Zb (Qs Q6 (pv 3) (Qs Zu (pv 1) Qd)) Qd) (2:)) (Qs Q6 Qd (Qs Zb (pv 1) Qd))))) Qq)
  (Qf (Qo (i:=4) ZW.nd rfl (9:) (Qs Q6 Qd (Qs Zb (pv 0) Qd)))
  (Qf (Qo (i:=5) ZW.nd rfl (9:) (Qs Zb (Qs Zu (pv 0) Qd) (pv 4)))
  (Qf (Qo (i:=6) ZW.nd rfl (9:) Zr)
  (Qf (QL PassesOwn.never rfl (QM rfl G.rng (Qa (pv 4) Qc)) (Qt (i:=7) ZW.nd rfl (9:)) (Qf (Qo (i:=8) ZW.nd rfl (9:) (Qs Z8 (Qs Zb (Qs Zu (pv 0) Qd) Qd) (pv 7)))
  (Qf (Uk (QC (Qr Za (pv 7) (pv 5) (Qu _)) (Qg (Qo (i:=8) ZW.nd rfl (9:) (Qs Q6 (pv 8) (pv 1)))) Qq))
  (Qg (Qo (i:=6) ZW.nd rfl (9:) (Qs Vl (pv 6) (Qk MS (pv 2) (Qs Zb (Qs Q6 (pv 3) (pv 8)) Qd) (2:))))))))
  (Qg (Ql (pv 6)))))))))),?_⟩
 refine⟨_,rfl,_,_,rfl,rfl,(37:),_,_,rfl,rfl,(by show(0:Int)<26;decide),?_⟩;have L:Lv.length<=sizeLine:=by rw [L4,GI];exact VX (12:)
 refine⟨_,rfl,_,_,rfl,rfl,(37:),_,_,rfl,rfl,(by show(0:Int)<3;decide),rfl,_,rfl,UP (λM=>?_) (λM=>?_)⟩
 .have m0:0<=k%8:=Int.emod_nonneg _ (12:);have m1:k%8<8:=Int.emod_lt_of_pos _ (12:);have J:c/1664%3=2:=V.int.inj (of_decide_eq_true M);refine⟨_,rfl,_,rfl,_,rfl,_,_,rfl,rfl,(37:),_,_,rfl,rfl,_,_,rfl,rfl,(by show(0:Int)<26;decide),_,_,Zy (c/64%26+k/8),rfl,rfl,L,V8 _,_,rfl,_,_,rfl,rfl,(by show(0:Int)<8;decide),_,_,rfl,rfl,Zy (c/64%26+k/8),_,rfl,rfl,(by show(1:Int)<=1+k%8;lia),(by show(1+k%8:Int)<=100;lia),?_⟩;have e:nmS c k=S (List.replicate (1+k%8).toNat (Zy (c/64%26+k/8))):=by unfold nmS nmL;rw [if_pos J]
  rw [e]at q;exact q
 have J:¬c/1664%3=2:=λz=>of_decide_eq_false (Bool.eq_false_iff.mpr M) (congrArg V.int z);have e:nmS c k=S ((List.range (1+c%8).toNat).map λ(j:Nat)=>Zy (44:)):=by unfold nmS nmL;rw [if_neg J]
 rw [e]at q;have h0:0<=c%8:=Int.emod_nonneg c (12:);have h8:c%8<8:=Int.emod_lt_of_pos c (12:);refine⟨_,rfl,_,_,rfl,rfl,(by show(0:Int)<8;decide),_,_,rfl,rfl,?_⟩;refine⟨_,rfl,_,_,rfl,rfl,(37:),_,rfl,_,_,rfl,rfl,(by show(0:Int)<1+c%8;lia),?_⟩;refine⟨_,rfl,_,rfl,(by show-(2^62:Int)<=1+c%8;lia),(by show(1+c%8:Int)<2^62;lia),?_⟩;refine Zi (lo:=0) (n:=(1+c%8).toNat) (λi σ H'=>∃(k1 k2:Option V),σ=[some (.int c),some (.int k),some (.str Lv),some (.int (c/64%26)),some (.int (1+c%8)),some (.int (c/8%(1+c%8))),some (.str (S ((List.range i).map λ(j:Nat)=>Zy (44:)))),k1,k2]/\H'=H)
  ⟨none,none,by simp only [List.range_zero,List.map_nil];rw [<-Ot];rfl,rfl⟩ ?_ ?_
 .rintro i σ H' hi ⟨k1,k2,rfl,rfl⟩;have ad:0<=c/1664%3:=Int.emod_nonneg _ (12:);have ae:c/1664%3<3:=Int.emod_lt_of_pos _ (12:);have Y:(0:Int)+(i:Int)=(i:Int):=by lia
  refine⟨_,rfl,_,_,rfl,rfl,(37:),_,_,rfl,rfl,(by show(0:Int)<3;decide),_,rfl,_,_,rfl,rfl,.inl ⟨(by show-(2^64:Int)<c/1664%3;lia),(by show(c/1664%3:Int)<2^64;lia)⟩,?_⟩;refine⟨λZ H3=>∃st:Int,st=c/1664%3*(i:Int)+(if(i:Int)=c/8%(1+c%8)then k else 0)/\Z=[some (.int c),some (.int k),some (.str Lv),some (.int (c/64%26)),some (.int (1+c%8)),some (.int (c/8%(1+c%8))),some (.str (S ((List.range i).map λ(j:Nat)=>Zy (44:)))),some (.int (0+(i:Int))),some (.int st)]/\H3=H',?_,?_⟩
  .refine⟨_,rfl,_,rfl,rfl,_,rfl,UP (λU=>?_) (λU=>?_)⟩
   .have aa:(0:Int)+(i:Int)=c/8%(1+c%8):=V.int.inj (of_decide_eq_true U);refine⟨_,rfl,_,rfl,_,_,rfl,rfl,_,?_,rfl,rfl⟩;show c/1664%3*(0+(i:Int))+k=_;rw [if_pos (3:),Y]
   .have aa:¬(0:Int)+(i:Int)=c/8%(1+c%8):=λz=>of_decide_eq_false (Bool.eq_false_iff.mpr U) (congrArg V.int z);refine⟨_,?_,rfl,rfl⟩;show c/1664%3*(0+(i:Int))=_;rw [if_neg (3:),Int.add_zero,Y]
  rintro Z H3 ⟨st,ab,rfl,rfl⟩;refine⟨_,rfl,_,rfl,_,rfl,_,rfl,_,_,rfl,rfl,_,_,rfl,rfl,(by show(0:Int)<26;decide),_,_,Zy (c/64%26+st),rfl,rfl,L,V8 _,_,_,rfl,rfl,?_,?_⟩
  .rw [OY,GI,GI,List.length_map,List.length_range];exact VX (by simp only [List.length_singleton];lia)
  .refine⟨some (.int (0+(i:Int))),some (.int st),?_,rfl⟩;rw [OY,Sa,List.range_succ,List.map_append,ab];rfl
 .rintro σ H' ⟨k1,k2,rfl,rfl⟩;exact⟨_,rfl,q⟩
end
end K70
namespace K70
open PySem L2 TM ST
section
variable{P:Program}{w:World}{K:Fg}{mg:Str->Option Value}{base:Heap}{f:Addr}{fd:FuncData}
theorem V3:FnScope ["_law_script","_law_most","_law_found","_law_number"] ["_law_script","_law_most"] (defScope O6):=(1:)
theorem Pk(F:Fun K "_law_numbers" "_law_numbers" O6 f fd)(G:Gm mg):FnOk P w K mg base CX0 1 f fd ["_law_script","_law_most"] (GC K):=by
 refine F.ok V3 (7:) (λae A outer s H vs Q E hr h=>?_)
 .obtain⟨a,L,rfl,_⟩:=h
  rfl
 obtain⟨a,L,rfl,hS,af,q⟩:=h;refine⟨_,(Qf (ZO (i:=2) (CompG.many (xs:=["_law_cell"]) (caps:=[]) (cap:=[]) (cs:=[]) rfl rfl (0:) (0:) (0:) (0:) (0:) (0:) rfl rfl rfl) rfl (QG (Jt Om (pv 0) XL (XH (pv 1)))) (Z0 (CompG.many (xs:=["_law_cell"]) (caps:=[]) (cap:=[]) (cs:=[]) rfl rfl (0:) (0:) (0:) (0:) (0:) (0:) rfl rfl rfl)) (λ_ _ _ _=>QX) (λ_ _ _ _=>Qs Zb (pv 0) (Qs Jn Qd Qd)) V3.nd rfl rfl)
  (Qf (Qo (i:=3) V3.nd rfl (9:) (Qs Q6 Qd (Qs Zb (Qn (JV rfl) rfl G.sum PyProof.Rows.boot_sum (Qa (pv 2) Qc)) Qd)))
  (Qf (WS PassesOwn.never (Qr GD (Qn Qm rfl G.len PySem.boot_len (Qa (pv 2) Qc)) (pv 1) (Qu _)) (Qf (Qo (i:=3) V3.nd rfl (9:) (Qs Zb (Qs Q6 (Qs Q6 (Qs Z8 (pv 3) (pv 3)) (Qs Z8 Qd (pv 3))) (Qn Qm rfl G.len PySem.boot_len (Qa (pv 2) Qc))) Qd))
  (Qg (Zw (Yp PySem.F.plainAttrs_list PySem.F.slot_list_append PySem.F.type_list_append QN (pv 2) (Qa (pv 3) Qc))))))
  (Qg (Ql (VN rfl (pv 2) (hm:=G.lst) (hm2:=G.rev))))))),?_⟩
 refine⟨_,rfl,_,rfl,_,rfl,a,_,rfl,hS,λp hp=>?_⟩;have ab:Y0 (NI L) none (some 1000)=NI L:=by
  have:=SO (NI L) 1000;rw [List.take_of_length_le (29:)]at this;exact this
 rw [ab];have g1:=Qe hp (.lst (NI L));refine⟨p,rfl,⟨_,SqL.of Qb⟩,λd hd=>?_⟩;have ac:H d=none:=g1.free hd;refine YB (K:=K) (xs:=NI L) (cs:=[]) (tt:=λ_ H Q=>Q true H) (λj ys H'=>∃ms:List Int,ys=NI ms/\ms.length=j/\H' d=some (.lst ys)/\Same (upd H p (.lst (NI L))) H')
  ⟨[],rfl,rfl,Qb,Qe hd _⟩ ?_ ?_ ?_
 .rintro j ys H' _ ⟨ms,_,_,_,g⟩;exact g.seq (SqL.of Qb)
 .rintro j x ys H' hj Z ⟨ms,rfl,aa,Y,g⟩;obtain⟨n,rfl⟩: ∃n:Int,x=.int n:=by
   rw [List.getElem?_map]at Z;cases e:L[j]? with
   | none=>rw [e]at Z;cases Z
   | some n=>rw [e]at Z;exact⟨n,(Option.some.inj Z).symm⟩
  refine QU ⟨_,rfl,_,_,rfl,rfl,⟨by decide,by decide,by decide⟩,_,_,rfl,rfl,(by show(0:Int)<10^59;decide),?_⟩;have ag:j<L.length:=by rw [List.length_map]at hj;exact hj
  refine Qv hj Y (29:) ⟨ms++[n%10^Int.toNat 59],by simp [NI],by simp [aa],Qb,λx u e=>?_⟩;rw [Qh (Qi e hd)];exact g _ _ e
 rintro ys H2 ⟨ms,rfl,aa,Y,g2⟩;rw [List.length_map]at aa;have ad:=g1.trans g2;refine⟨_,rfl,d,ms,rfl,SqL.of Y,_,_,rfl,rfl,(by show(0:Int)<2147483647;decide),_,_,rfl,rfl,?_⟩;have s0:0<=ms.sum%2147483647:=Int.emod_nonneg _ (12:);have s1:ms.sum%2147483647<2147483647:=Int.emod_lt_of_pos _ (12:);refine⟨λm σ H'=>∃(J:List Int)(r:Int),m=1000-J.length/\J.length<=1000/\σ=[some (.ref a),some (.int 1000),some (.ref d),some (.int r)]/\0<=r/\r<3000000000/\Same H H'/\H' d=some (.lst (NI J)),⟨_,ms,_,rfl,by lia,rfl,?_,?_,ad,Y⟩,?_⟩
 .exact Int.add_nonneg (12:) s0
 .show _+ms.sum%2147483647<(3000000000:Int);lia
 rintro m σ H' ⟨J,r,rfl,ah,rfl,ai,aj,g,M⟩;have U:(NI J).length=J.length:=List.length_map ..;refine⟨_,rfl,d,_,rfl,.inl (SqL.of M),_,rfl,_,_,rfl,rfl,_,rfl,UP (λc=>?_) (λc=>?_)⟩
 .have c':(((NI J).length:Nat):Int)<1000:=of_decide_eq_true c;rw [U]at c';refine⟨λak H2=>∃m',m'<1000-J.length/\_,λ_ _ h=>h,?_⟩;refine⟨_,rfl,_,rfl,_,_,rfl,rfl,.inl ⟨(by show-(2^64:Int)<r;lia),(by show(r:Int)<2^64;lia)⟩,_,rfl,_,_,rfl,rfl,.inl (37:),_,_,rfl,rfl,_,rfl,d,_,rfl,.inl (SqL.of M),_,_,rfl,rfl,_,_,rfl,rfl,(by show(0:Int)<2147483647;decide),?_⟩;dsimp only;have t0:0<=(r*r+48271*r+(((NI J).length:Nat):Int))%2147483647:=Int.emod_nonneg _ (12:);have t1:(r*r+48271*r+(((NI J).length:Nat):Int))%2147483647<2147483647:=Int.emod_lt_of_pos _ (12:);generalize (r*r+48271*r+(((NI J).length:Nat):Int))%2147483647=r2 at t0 t1;refine⟨_,rfl,.inl ⟨rfl,_,SqL.of M⟩,_,rfl,d,NI J,_,rfl,rfl,M,(by rw [U,Qz];lia),?_⟩;refine⟨_,?_,J++[r2],r2,rfl,by simp;lia,rfl,t0,by lia,λx u e=>?_,?_⟩
  .simp only [List.length_append,List.length_singleton];lia
  .rw [Qh (Qi e ac)];exact g _ _ e
  .rw [Qb];simp [NI]
 .refine⟨_,rfl,d,NI J,rfl,SqL.of M,(by rw [U,Qz];lia),λl hl=>?_⟩;refine q l _ (g.trans (Qe hl _)) (g.free hl) ⟨J.reverse,?_⟩;rw [Qb,List.map_reverse]
end
end K70
namespace L2
open PySem PySem.Spec PyProof.Rows PySem.W
section
variable{X:Cx}
end
@[reducible] def strOrd:KeyOrd:=⟨List Nat,λa b=>decide (a<b),λa=>strKind.irrefl a,λa b c=>strKind.trans a b c,λa b c=>strKind.negTrans a b c,λa b=>strKind.total a b⟩
abbrev PNx:=Addr×Str×Addr×List Str
def PairN(h:Heap)(t:PNx):Prop:=∃(tk:Tok)(as:List Addr),h.IsTuple t.1 [Value.str t.2.1 tk,Value.ref t.2.2.1].toArray/\Reads h (.ref t.2.2.1) (.tuple (t.2.2.2.map PyData.str)) as
theorem PairN.keeps{h h':Heap}{t:PNx}(k:∀b o,h.get? b=some o->h'.get? b=some o)(x:PairN h t):PairN h' t:=by
 obtain⟨tk,G,h1,h2⟩:=x;exact⟨tk,G,IsTuple.keeps k h1,Reads.keeps k h2⟩
theorem YG{K:Fg}{H:Hp}:∀p:List Str,RdAll K H (p.map V.str) (p.map PyData.str)
 | []=>.nil
 | i::r=>.cons (.str i) (YG r)
theorem Y2:∀p:List Str,(∀x∈p,PyData.strOk x=true)->PyData.canLayAll0 (p.map PyData.str)=true
 | [],_=>by simp [PyData.canLayAll0]
 | i::r,h=>by simp only [List.map_cons,PyData.canLayAll0,PyData.canLay0,Y2 r λx G=>h x (19:),h i List.mem_cons_self,Bool.and_self]
theorem Jc{h:Heap}:∀{ts:List PNx},(∀t∈ts,PairN h t)->∃fs:List Value,KatTups h (ts.map λt=>Value.ref t.1) fs/\(∀v∈fs,∃x t,v=Value.str x t)/\fs.length=ts.length
 | [],_=>⟨[],KatTups.nil,λv hv=>(nomatch hv),rfl⟩
 | t::r,ht=>by
  obtain⟨tk,U,⟨o,go,G,n,J⟩,_⟩:=ht t List.mem_cons_self;obtain⟨fs,h1,h2,L⟩:=Jc λu M=>ht u (List.mem_cons_of_mem _ M);refine⟨Value.str t.2.1 tk::fs,KatTups.cons go G J rfl h1,λv hv=>?_,by simp [L]⟩;rcases List.mem_cons.mp hv with rfl | hv
  .exact⟨_,_,rfl⟩
  .exact h2 v hv
section
variable{prog:Program}{w:World}{A:Around}{E:Value->Shared->Prop}{s:Shared}
theorem Nz{t u:PNx}{C:Bool->Shared->Prop}(ht:PairN s.heap t)(hu:PairN s.heap u)(hok:∀x∈t.2.2.2,PyData.strOk x=true)(hd:t.1≠u.1->t.2.1≠u.2.1)(hA:A.units+2<cLine)(h:C (decide (t.2.1.cps.toList<u.2.1.cps.toList)) s):wpAny (15:) A (keyLt' (tuples' true) (.ref t.1) (.ref u.1)) C E s:=by
 obtain⟨tk,as,h1,L⟩:=ht;obtain⟨J,aa,M,g4⟩:=hu;have G:(PyData.tuple (t.2.2.2.map PyData.str)).canLay0=true:=by simp only [PyData.canLay0];exact Y2 _ hok
 have ab:(PyData.tuple (t.2.2.2.map PyData.str)).depth<=1:=by simp only [PyData.depth,YO];lia
 refine OF h1 M (λU=>?_) (λY=>?_)
 .refine⟨?_,oneLt_str h⟩;have e:=(eqGives_str t.2.1 u.2.1 tk J).at A s;have:(t.2.1==u.2.1)=false:=by simpa using hd U
  rw [this]at e;exact e
 .refine⟨?_,?_,?_⟩
  .have e:=(eqGives_str t.2.1 t.2.1 tk tk).at A s
   simpa using e
  .have e:=SeqAt.eqAt_reads _ _ A s _ _ _ _ L L G G (3:);rw [ZA _ G]at e;exact e
  .have e1:t.2.1=u.2.1:=by
    obtain⟨o,e,_,n,d⟩:=h1;obtain⟨o2,e2,_,n2,Z⟩:=M;rw [Y,e2]at e;cases e;rw [d]at Z;injection Z with z1 z2;have z3:[Value.str t.2.1 tk,Value.ref t.2.2.1]=[Value.str u.2.1 J,Value.ref u.2.2.1]:=by simpa using congrArg Array.toList z1
    injection z3 with z4 z5;injection z4
   rw [<-e1,decide_eq_false (List.lt_irrefl _)]at h;exact h
end
section
variable{X:Cx}
theorem XT(hu:X.A.units+4<cLine):QV X (.builtin "sorted") (λxs H Q=>∃(l:Addr)(ts:List PNx),xs=[.ref l]/\SqL X.K H l (ts.map λt=>V.ref t.1)/\(∀t∈ts,SqT X.K H t.1 [.str t.2.1,.ref t.2.2.1]/\SqT X.K H t.2.2.1 (t.2.2.2.map V.str)/\∀x∈t.2.2.2,PyData.strOk x=true)/\(ts.map λt=>t.2.1).Nodup/\ts.length<64/\
 ∀(out:List PNx) p,out.Perm ts->(out.Pairwise λx y=>¬y.2.1.cps.toList<x.2.1.cps.toList)->H p=none->Q (.ref p) (upd H p (.lst (out.map λt=>V.ref t.1)))):=by
 intro pins s σ H xs us Q I r h;obtain⟨l,ts,rfl,hl,ht,aa,ab,q⟩:=h;cases r with
 | cons r rr=>
  cases rr;obtain rfl:_=Value.ref l:=r;obtain⟨its,M,p,_⟩:=I.list hl;obtain rfl:=Ul M;have U:∀t∈ts,PairN s.heap t:=λt G=>by
   obtain⟨h1,h2,_⟩:=ht t G;obtain⟨af,r1,p1,_⟩:=I.tuple h1;obtain⟨u,v,rfl,ru,M⟩:=r1.two;cases (show v=Value.ref _ from M);obtain⟨tk,rfl⟩:=(show ∃tk,u=Value.str _ tk from ru);obtain⟨as,q4⟩:=(RdV.tup h2 (YG _)).reads I (show RelV (.ref t.2.2.1) (.ref t.2.2.1)from rfl);exact⟨tk,as,p1,q4⟩
  let d:PNx:=(0,⟨#[]⟩,0,[])
  have Y:∀i,i<ts.length->(ts.map λt=>Value.ref t.1).getD i Value.none=.ref (ts.getD i d).1:=λi hi=>by simp [List.getD_eq_getElem?_getD,hi]
  have md:∀i,i<ts.length->ts.getD i d∈ts:=λi hi=>by simp [List.getD_eq_getElem?_getD,hi]
  have ek:(Value.type "str" !=Value.type "tuple")=true:=by decide+kernel
  refine Vm strOrd (λi=>(ts.getD i d).2.1.cps.toList) (tuples' true) p.isList (by simpa using ab) (λs' E' Q' L h2 hq=>?_) (λs' i j C L hi J hC=>?_) λZ o1 o2=>?_
  .obtain⟨fs,f1,f2,f3⟩:=Jc (h:=s'.heap) λt G=>(U t G).keeps L;refine kat_kind (T:=.type "str") f1 (by rw [f3];rw [List.length_map]at h2;lia) (λv hv=>?_) (0:) (by rw [ek];exact hq);obtain⟨x,t,rfl⟩:=f2 v hv;exact .now
  .rw [List.length_map]at hi J;rw [Y i hi,Y j J];refine Nz ((U _ (md i hi)).keeps L) ((U _ (md j J)).keeps L) (ht _ (md i hi)).2.2 (λac he=>ac ?_) (by show X.A.units+1+1+2<cLine;lia) hC;have ad:i=j:=by
    have a1:(ts.map λt=>t.2.1)[i]'(by simpa using hi)=(ts.getD i d).2.1:=by simp [List.getD_eq_getElem?_getD,hi]
    have a2:(ts.map λt=>t.2.1)[j]'(by simpa using J)=(ts.getD j d).2.1:=by simp [List.getD_eq_getElem?_getD,J]
    exact(List.getElem_inj aa).mp (a1.trans (he.trans a2.symm))
   rw [ad]
  .rw [List.length_map]at o1 o2;obtain⟨w1,w2⟩:=OA (O:=strOrd) (ts:=ts) (d:=d) (key:=λt=>t.2.1.cps.toList) o1 o2;have em:(Z.toList.map λi=>(ts.map λt=>Value.ref t.1).getD i Value.none)=(Z.toList.map λi=>ts.getD i d).map λt=>Value.ref t.1:=by
    rw [List.map_map];refine List.map_congr_left λi hi=>?_;exact Y i (List.mem_range.mp (o1.mem_iff.mp hi))
   rw [em];generalize Z.toList.map (λi=>ts.getD i d)=out at w1 w2;obtain⟨e,he⟩:=sortedAll_at s.heap (ts.map λt=>Value.ref t.1) (out.map λt=>Value.ref t.1).toArray;have ae:H (16:)=none:=I.hok.fresh (Nat.le_succ _);refine⟨.ref (16:),_,I.laid (t':=s.toks) (o:=.lst (out.map λt=>V.ref t.1)) (λb o g=>sortedAll_old g) (Nat.le_succ _) ?_,rfl,q out _ w1 (w2.imp λh=>by simpa using h) ae⟩;exact⟨by rw [List.length_map,w1.length_eq,sizeLine_eq];lia,_,e,Xb out,he⟩
end
end L2
namespace K9
open PySem L2 TM
mutual
noncomputable def isT(f:Str->Str->Option (List Str)):Tree Str->Str->Bool
 | .node n _ bs,k=>match f k n with
  | none=>false
  | some ss=>decide (ss.length=bs.length)&&Rb f bs ss
noncomputable def Rb(f:Str->Str->Option (List Str)):List (40:)->List Str->Bool
 | [],ss=>ss.isEmpty
 | b::bs,ss=>match ss with
  | []=>false
  | s::r=>isT f b s&&Rb f bs r
end
mutual
noncomputable def td:Tree Str->PyData
 | .node n m bs=>.tuple [.str n,.int m,.tuple (tds bs)]
noncomputable def tds:List (40:)->List PyData
 | []=>[]
 | t::r=>td t::tds r
end
mutual
theorem TrV.rd{K:Fg}{H:Hp}:∀{v:V}{t:Tree Str},TrV K H v t->RdV K H v (td t)
 | _,_,.mk h1 h2 G _=>by
  simp only [td];exact .tup h1 (.cons (.str _) (.cons (.int _) (.cons (.tup h2 (TrAll.rd G)) .nil)))
theorem TrAll.rd{K:Fg}{H:Hp}:∀{vs:List V}{ts:List (40:)},TrAll K H vs ts->RdAll K H vs (tds ts)
 | _,_,.nil=>by simp only [tds];exact .nil
 | _,_,.cons h t=>by simp only [tds];exact .cons (TrV.rd h) (TrAll.rd t)
end
abbrev KdT:=Addr×Str×Addr×List PNx
def RowAt(K:Fg)(H:Hp)(t:PNx):Prop:=SqT K H t.1 [.str t.2.1,.ref t.2.2.1]/\SqT K H t.2.2.1 (t.2.2.2.map V.str)
def RowsL(K:Fg)(H:Hp)(lr:Addr)(rs:List PNx):Prop:=SqL K H lr (rs.map λt=>V.ref t.1)/\∀t∈rs,RowAt K H t
def WoodAt(K:Fg)(H:Hp)(w:Addr)(ks:List KdT):Prop:=SqL K H w (ks.map λk=>V.ref k.1)/\∀k∈ks,SqT K H k.1 [.str k.2.1,.ref k.2.2.1]/\RowsL K H k.2.2.1 k.2.2.2
theorem RowAt.same{K:Fg}{H H':Hp}{t:PNx}(g:Same H H')(h:RowAt K H t):RowAt K H' t:=⟨g.seqT h.1,g.seqT h.2⟩
theorem RowsL.same{K:Fg}{H H':Hp}{lr:Addr}{rs:List PNx}(g:Same H H')(h:RowsL K H lr rs):RowsL K H' lr rs:=⟨g.seq h.1,λt G=>(h.2 t G).same g⟩
theorem WoodAt.same{K:Fg}{H H':Hp}{w:Addr}{ks:List KdT}(g:Same H H')(h:WoodAt K H w ks):WoodAt K H' w ks:=⟨g.seq h.1,λk G=>⟨g.seqT (h.2 k G).1,(h.2 k G).2.same g⟩⟩
structure RowsOk(rs:List PNx):Prop where
 nd:(rs.map λt=>t.2.1).Nodup
 len:rs.length<=10
 nm:∀r∈rs,PyData.strOk r.2.1=true
 kn:∀r∈rs,∀x∈r.2.2.2,PyData.strOk x=true
 kl:∀r∈rs,r.2.2.2.length<=4
structure WoodOk(ks:List KdT):Prop where
 nd:(ks.map λk=>k.2.1).Nodup
 len:ks.length<=10
 rows:∀k∈ks,RowsOk k.2.2.2
def QF(ks:List KdT)(kind:Str):List PNx:=((ks.find? λk=>decide (k.2.1=kind)).map λk=>k.2.2.2).getD []
def Vv(ks:List KdT)(kind name:Str):Option (List Str):=((QF ks kind).find? λr=>decide (r.2.1=name)).map λr=>r.2.2.2
theorem XG{α:Type}(f:α->Str)(g:α->V)(z:Str):∀l:List α,ZG (l.map λx=>((Sum.inr (f x):Key),g x)) (Sum.inr z)=(l.find? λx=>decide (f x=z)).map g
 | []=>rfl
 | x::r=>by
  rw [List.map_cons,List.find?_cons]
  by_cases e:f x=z
  .rw [Yv (p:=((Sum.inr (f x):Key),g x)) (by rw [e]),decide_eq_true e];rfl
  .rw [YA (p:=((Sum.inr (f x):Key),g x)) (λq=>e (by injection q)),decide_eq_false e];exact XG f g z r
theorem L9{ks:List KdT}(h:WoodOk ks)(kind:Str):RowsOk (QF ks kind):=by
 unfold QF;cases e:ks.find? λk=>decide (k.2.1=kind)with
 | none=>exact⟨List.nodup_nil,Nat.zero_le _,λr G=>(nomatch G),λr G=>(nomatch G),λr G=>(nomatch G)⟩
 | some k=>exact h.rows k (List.mem_of_find?_eq_some e)
def SX(K:Fg)(H:Hp)(v:V):Option (List Str)->Prop
 | none=>v=.non
 | some ss=>∃b,v=.ref b/\SqT K H b (ss.map V.str)
theorem ZQ{K:Fg}{H:Hp}{v:V}{t:Tree Str}(h:TrV K H v t):∃a b vs name mark,v=.ref a/\t=.node name mark t.bs/\SqT K H a [.str name,.int mark,.ref b]/\SqT K H b vs/\TrAll K H vs t.bs/\vs.length<=1000:=by
 cases h with
 | mk h1 h2 G J=>exact⟨_,_,_,_,_,rfl,rfl,h1,h2,G,J⟩
end K9
namespace TT
open TM PySem
inductive Lab where
 | call (m b:Int)
 | put (nm:Str) (kept:Bool) (add:Int)
abbrev Tm:=Tree Lab
def Rl(m b:Int):Tm:=.node (.call m b) 0 []
def lcl:Lab->List (Int×Int)
 | .call m b=>[(m,b)]
 | .put _ _ _=>[]
def isC:Lab->Bool
 | .call _ _=>true
 | .put _ _ _=>false
def lab:Tm->Lab
 | .node l _ _=>l
mutual
noncomputable def cls:Tm->List (Int×Int)
 | .node l _ bs=>lcl l++RY bs
noncomputable def RY:List Tm->List (Int×Int)
 | []=>[]
 | t::r=>cls t++RY r
end
def look(t:Tm)(p:List Int):List (Int×Int):=match atT t p with
 | some u=>lcl (lab u)
 | none=>[]
variable{R:Rows Lab}
variable{B B':Nat->Tm}{f:Int->Int->Tm}
end TT
namespace L2
open PySem PyProof.Rows TM TT
abbrev Yi:Str:=Str.ofString "call"
abbrev PUT:Str:=Str.ofString "put"
mutual
inductive TmV(K:Fg)(H:Hp):V->Tm->Prop where
 | call {a:Addr} {m b:Int}:SqT K H a [.str Yi,.int m,.int b]->TmV K H (.ref a) (.node (.call m b) 0 [])
 | put {a b:Addr} {vs:List V} {ts:List Tm} {n:Str} {k:Bool} {ad:Int}:SqT K H a [.str PUT,.str n,.bl k,.int ad,.ref b]->SqT K H b vs->TmAll K H vs ts->vs.length<=1000->TmV K H (.ref a) (.node (.put n k ad) 0 ts)
inductive TmAll(K:Fg)(H:Hp):List V->List Tm->Prop where
 | nil:TmAll K H [] []
 | cons {v:V} {vs:List V} {t:Tm} {ts:List Tm}:TmV K H v t->TmAll K H vs ts->TmAll K H (v::vs) (t::ts)
end
mutual
theorem TmV.mono{K:Fg}{H H':Hp}(k:∀a xs,SqT K H a xs->SqT K H' a xs):∀{v:V}{t:Tm},TmV K H v t->TmV K H' v t
 | _,_,.call h=>.call (k _ _ h)
 | _,_,.put h1 h2 G J=>.put (k _ _ h1) (k _ _ h2) (TmAll.mono k G) J
theorem TmAll.mono{K:Fg}{H H':Hp}(k:∀a xs,SqT K H a xs->SqT K H' a xs):∀{vs:List V}{ts:List Tm},TmAll K H vs ts->TmAll K H' vs ts
 | _,_,.nil=>.nil
 | _,_,.cons h t=>.cons (TmV.mono k h) (TmAll.mono k t)
end
theorem TmAll.length{K:Fg}{H:Hp}:∀{vs:List V}{ts:List Tm},TmAll K H vs ts->vs.length=ts.length
 | _,_,.nil=>rfl
 | _,_,.cons _ t=>by rw [List.length_cons,List.length_cons,TmAll.length t]
theorem TmAll.get{K:Fg}{H:Hp}:∀{vs:List V}{ts:List Tm}{i:Nat}{t:Tm},TmAll K H vs ts->ts[i]?=some t->∃v,vs[i]?=some v/\TmV K H v t
 | _,_,_,_,.nil,e=>by simp at e
 | _,_,0,_,.cons h _,e=>by simp at e;subst e;exact⟨_,rfl,h⟩
 | _,_,i+1,t,.cons _ r,e=>by
  obtain⟨v,h1,h2⟩:=TmAll.get (i:=i) (t:=t) r (by simpa using e);exact⟨v,by simpa using h1,h2⟩
theorem TmAll.append{K:Fg}{H:Hp}:∀{vs ws:List V}{ts us:List Tm},TmAll K H vs ts->TmAll K H ws us->TmAll K H (vs++ws) (ts++us)
 | _,_,_,_,.nil,h=>h
 | _,_,_,_,.cons a t,h=>.cons a (TmAll.append t h)
def tdl:Lab->List PyData->PyData
 | .call m b,_=>.tuple [.str Yi,.int m,.int b]
 | .put n k a,ds=>.tuple [.str PUT,.str n,.bool k,.int a,.tuple ds]
mutual
noncomputable def tmd:Tm->PyData
 | .node l _ bs=>tdl l (UM bs)
noncomputable def UM:List Tm->List PyData
 | []=>[]
 | t::r=>tmd t::UM r
end
mutual
theorem TmV.rd{K:Fg}{H:Hp}:∀{v:V}{t:Tm},TmV K H v t->RdV K H v (tmd t)
 | _,_,.call h=>by
  simp only [tmd,tdl];exact .tup h (.cons (.str _) (.cons (.int _) (.cons (.int _) .nil)))
 | _,_,.put h1 h2 G _=>by
  simp only [tmd,tdl];exact .tup h1 (.cons (.str _) (.cons (.str _) (.cons (.bl _) (.cons (.int _) (.cons (.tup h2 (TmAll.rd G)) .nil)))))
theorem TmAll.rd{K:Fg}{H:Hp}:∀{vs:List V}{ts:List Tm},TmAll K H vs ts->RdAll K H vs (UM ts)
 | _,_,.nil=>by simp only [UM];exact .nil
 | _,_,.cons h t=>by simp only [UM];exact .cons (TmV.rd h) (TmAll.rd t)
end
def MOk(d:Nat)(t:Tm):Prop:=(tmd t).canLay0=true/\(tmd t).depth<=d
theorem MOk.mono{d e:Nat}{t:Tm}(h:MOk d t)(hd:d<=e):MOk e t:=⟨h.1,Nat.le_trans h.2 hd⟩
theorem XS{d:Nat}:∀ts:List Tm,(∀t∈ts,MOk d t)->PyData.canLayAll0 (UM ts)=true/\PyData.depthAll (UM ts)<=d
 | [],_=>by simp [UM,PyData.canLayAll0,PyData.depthAll]
 | t::r,h=>by
  obtain⟨h1,h2⟩:=h t List.mem_cons_self;obtain⟨G,L⟩:=XS r λu J=>h u (List.mem_cons_of_mem _ J);simp only [UM,PyData.canLayAll0,PyData.depthAll,h1,G,Bool.and_self,true_and];lia
theorem LS:PyData.strOk Yi=true:=by decide+kernel
theorem N1:PyData.strOk PUT=true:=by decide+kernel
theorem leaf_ok(m b:Int)(mk:Int)(bs:List Tm):MOk 1 (.node (.call m b) mk bs):=by
 constructor
 .simp only [tmd,tdl,PyData.canLay0,PyData.canLayAll0,LS,Bool.and_self]
 .simp only [tmd,tdl,PyData.depth,PyData.depthAll];lia
theorem put_ok{d:Nat}{n:Str}{k:Bool}{a mk:Int}{ts:List Tm}(hn:PyData.strOk n=true)(h:∀t∈ts,MOk d t):MOk (d+2) (.node (.put n k a) mk ts):=by
 obtain⟨h1,h2⟩:=XS ts h;constructor
 .simp only [tmd,tdl,PyData.canLay0,PyData.canLayAll0,h1,hn,N1,Bool.and_self]
 .simp only [tmd,tdl,PyData.depth,PyData.depthAll];lia
end L2
namespace K11
open PySem L2 TM TT K9
def kpl:Lab->Bool
 | .call _ _=>false
 | .put _ k _=>k
mutual
noncomputable def kp:Tm->Bool
 | .node l _ bs=>kpl l||kps bs
noncomputable def kps:List Tm->Bool
 | []=>false
 | t::r=>kp t||kps r
end
def TC(mk ks:List Str)(c:Int×Int):Bool:=decide (0<=c.1)&&decide (c.1<mk.length)&&decide (0<=c.2)&&decide (c.2<ks.length)&&decide (mk[c.1.toNat]?=ks[c.2.toNat]?)
def Tc(mk ks:List Str)(t:Tm):Bool:=(cls t).all (TC mk ks)
abbrev Md:=Str×List Tm
abbrev MdT:=Addr×Str×Addr×List V×List Tm
def MdT.md(m:MdT):Md:=(m.2.1,m.2.2.2.2)
def MdAt(K:Fg)(H:Hp)(m:MdT):Prop:=SqT K H m.1 [.str m.2.1,.ref m.2.2.1]/\SqL K H m.2.2.1 m.2.2.2.1/\TmAll K H m.2.2.2.1 m.2.2.2.2
def ModesL(K:Fg)(H:Hp)(lm:Addr)(ms:List MdT):Prop:=SqL K H lm (ms.map λm=>V.ref m.1)/\∀m∈ms,MdAt K H m
theorem MdAt.same{K:Fg}{H H':Hp}{m:MdT}(g:Same H H')(h:MdAt K H m):MdAt K H' m:=⟨g.seqT h.1,g.seq h.2.1,h.2.2.mono λ_ _=>g.seqT⟩
theorem ModesL.same{K:Fg}{H H':Hp}{lm:Addr}{ms:List MdT}(g:Same H H')(h:ModesL K H lm ms):ModesL K H' lm ms:=⟨g.seq h.1,λm G=>(h.2 m G).same g⟩
abbrev mks(ms:List Md):List Str:=ms.map (·.1)
def Xj(ks:List KdT)(m:Md)(name:Str):Option Tm:=(((QF ks m.1).zip m.2).find? λx=>decide (x.1.2.1=name)).map (·.2)
def TmO(K:Fg)(H:Hp)(v:V):Option Tm->Prop
 | none=>v=.non
 | some t=>TmV K H v t
end K11
namespace L2
open PySem PyProof.Rows TM TT K9 K11
theorem SameD.seqL{K:Fg}{d a:Addr}{H H':Hp}{xs:List V}(g:SameD d H H')(hne:a≠d)(h:SqL K H a xs):SqL K H' a xs:=by
 rcases h with(h | ⟨G,h⟩) | h
 .exact .inl (.inl (g _ _ hne h))
 .exact .inl (.inr ⟨G,g _ _ hne h⟩)
 .exact .inr h
def WoodD(K:Fg)(H:Hp)(d w:Addr)(ks:List KdT):Prop:=WoodAt K H w ks/\w≠d/\∀k∈ks,k.2.2.1≠d
theorem WoodD.sameD{K:Fg}{H H':Hp}{d w:Addr}{ks:List KdT}(g:SameD d H H')(hd:Dk H d)(h:WoodD K H d w ks):WoodD K H' d w ks:=by
 obtain⟨⟨h1,h2⟩,J,L⟩:=h;exact⟨⟨g.seqL J h1,λk G=>⟨g.seqT hd (h2 k G).1,g.seqL (L k G) (h2 k G).2.1,λt M=>⟨g.seqT hd ((h2 k G).2.2 t M).1,g.seqT hd ((h2 k G).2.2 t M).2⟩⟩⟩,J,L⟩
structure DWood(c:Int)(ks:List KdT):Prop where
 ok:WoodOk ks
 pos:0<ks.length
 three:ks.length<=3
 nm:∀k∈ks,PyData.strOk k.2.1=true
 few:∀k∈ks,k.2.2.2.length<=3
 bare:∀k∈ks,∃r∈k.2.2.2,r.2.2.2=[]
 kin:∀k∈ks,∀r∈k.2.2.2,∀x∈r.2.2.2,x∈ks.map λk=>k.2.1
theorem Dk.put{d a:Addr}{H:Hp}{o:HO}(h:Dk H d)(hne:a≠d):Dk (L2.upd H a o) d:=h.upd hne
theorem SameD.put{d a:Addr}{H H':Hp}{o:HO}(g:SameD d H H')(ha:H a=none):SameD d H (L2.upd H' a o):=λb u G e=>by
 rw [Qh (Qi e ha)];exact g _ _ G e
end L2
namespace K70
open PySem L2 TM TT ST K9 K11
abbrev Na:Stmt:=top 19
def XM(K:Fg):Sp:=λvs H Q _=>∃(d:Addr)(c:Int),vs=[.ref d,.int c]/\Dk H d/\∀(w:Addr)(H':Hp)(ks:List KdT),SameD d H H'->Dk H' d->WoodD K H' d w ks->DWood c ks->(∀k∈ks,∀r∈k.2.2.2,∃i:Int,0<=i/\i<20/\r.2.1=nmS c i)->Q (.ref w) H'
def Pj(c:Int)(n:Nat)(r:PNx):Prop:=PyData.strOk r.2.1=true/\r.2.2.2.length<=4/\(∀x∈r.2.2.2,x∈(List.range n).map λ(i:Nat)=>nmS c (i:Int))/\∃i:Int,0<=i/\i<20/\r.2.1=nmS c i
def OO(c:Int)(n:Nat)(b:Int)(rs:List PNx):Prop:=rs.map (λr=>r.2.1)=(List.range rs.length).map (λ(j:Nat)=>nmS c (b+(j:Int)))/\(∀r∈rs,Pj c n r)/\(∃r∈rs,r.2.2.2=[])
theorem Yo(c b:Int)(n:Nat)(h0:0<=b)(h1:b+(n:Int)<=26):((List.range n).map λ(j:Nat)=>nmS c (b+(j:Int))).Nodup:=by
 rw [List.nodup_iff_pairwise_ne,List.pairwise_map];refine List.Pairwise.imp_of_mem (λ{i j} hi J G e=>G ?_) (List.nodup_iff_pairwise_ne.mp List.nodup_range);have L:=List.mem_range.mp hi;have M:=List.mem_range.mp J;have:=Gi (c:=c) (k:=b+(i:Int)) (k':=b+(j:Int)) (3:) (3:) (3:) (3:) e;lia
theorem ND{c:Int}{n:Nat}{b:Int}{rs out:List PNx}(h:OO c n b rs)(h0:0<=b)(h1:b+3<=26)(hl:rs.length<=3)(hp:out.Perm rs):RowsOk out/\out.length<=3/\(∃r∈out,r.2.2.2=[])/\∀r∈out,Pj c n r:=by
 obtain⟨h2,J,M,L,U⟩:=h;have Y:=hp.length_eq;have nd:(rs.map λr=>r.2.1).Nodup:=by rw [h2];exact Yo c b rs.length h0 (3:)
 refine⟨⟨(hp.map _).nodup_iff.mpr nd,by lia,λr G=>(J r (hp.mem_iff.mp G)).1,λr G x Z=>?_,λr G=>(J r (hp.mem_iff.mp G)).2.1⟩,by lia,⟨M,hp.mem_iff.mpr L,U⟩,λr G=>J r (hp.mem_iff.mp G)⟩;obtain⟨i,_,rfl⟩:=List.mem_map.mp ((J r (hp.mem_iff.mp G)).2.2.1 x Z);exact Z4 _ _
section
variable{P:Program}{w:World}{K:Fg}{mg:Str->Option Value}{base:Heap}{f:Addr}{fd:FuncData}
theorem Ym:FnScope ["_law_deck","_law_code","_law_count","_law_apart","_law_wood_here","_law_k","_law_rows_here","_law_j","_law_branches"] ["_law_deck","_law_code"] (defScope Na):=(1:)
theorem Oy(F:Fun K "_law_wood" "_law_wood" Na f fd)(G:Gm mg)(RD:Fn P w K mg base 1 "_law_draw" ["_law_deck","_law_most"] QZ)(RN:Fn P w K mg base 1 "_law_name" ["_law_code","_law_k"] ZC):FnOk P w K mg base CX0 2 f fd ["_law_deck","_law_code"] (XM K):=by
 refine F.ok Ym (7:) (λca A outer s H vs Q E hr h=>?_)
 .obtain⟨d,c,rfl,_⟩:=h
  rfl
 obtain⟨d,c,rfl,hd,q⟩:=h;refine⟨_,(Qf (Qo (i:=2) Ym.nd rfl (Or.inr rfl) (Qs Q6 Qd (Qp RD hr (49:))))
  (Qf (Qo (i:=3) Ym.nd rfl (9:) (Qs Z8 (Qp RD hr (49:)) Qd))
  (Qf (Qo (i:=4) Ym.nd rfl (9:) (QY Qc))
  (Qf (QL PassesOwn.never rfl (QM rfl G.rng (Qa (pv 2) Qc)) (Qt (i:=5) Ym.nd rfl (9:)) (Qf (Qo (i:=6) Ym.nd rfl (9:) (QY (Qa ((QD (Qa (Qp RN hr (Qa (pv 1) (Qa (Qs Q6 Qd (Qs Z8 (pv 3) (pv 5))) Qc))) (Qa (QD Qc) Qc)))) Qc)))
  (Qf (QL PassesOwn.never rfl (QM rfl G.rng (Qa (Qp RD hr (49:)) Qc)) (Qt (i:=7) Ym.nd rfl (9:)) (Qf (ZO (i:=8) (CompG.many (xs:=["_law_i"]) (caps:=["_law_code","_law_count","_law_deck"]) (cap:=[1,2,0]) (cs:=[_,_,_]) rfl rfl (0:) (0:) (0:) (0:) (0:) (0:) rfl rfl rfl) rfl (QM rfl G.rng (Qa (Qp RD hr (49:)) Qc)) (Z0 (CompG.many (xs:=["_law_i"]) (caps:=["_law_code","_law_count","_law_deck"]) (cap:=[1,2,0]) (cs:=[_,_,_]) rfl rfl (0:) (0:) (0:) (0:) (0:) (0:) rfl rfl rfl)) (λ_ _ _ _=>QX) (λ_ _ _ _=>Qp RN hr (Qa (pv 1) (Qa (Qp RD hr (Qa (pv 3) (Qa (pv 2) Qc))) Qc))) Ym.nd rfl rfl)
  (Qg (Zw (Yp PySem.F.plainAttrs_list PySem.F.slot_list_append PySem.F.type_list_append QN (pv 6) (Qa ((QD (Qa (Qp RN hr (Qa (pv 1) (Qa (Qs Q6 (Qs Q6 Qd (pv 7)) (Qs Z8 (pv 3) (pv 5))) Qc))) (Qa (QR QW rfl G.tup PyProof.Rows.boot_tuple (Qa (pv 8) Qc)) Qc)))) Qc))))))
  (Qg (Zw (Yp PySem.F.plainAttrs_list PySem.F.slot_list_append PySem.F.type_list_append QN (pv 4) (Qa ((QD (Qa (Qp RN hr (Qa (pv 1) (Qa (pv 5) Qc))) (Qa (Qn (XT (hr.fit (12:))) rfl G.srt PyProof.Rows.boot_sorted (Qa (pv 6) Qc)) Qc)))) Qc)))))))
  (Qg (Ql (pv 4))))))),?_⟩
 refine⟨_,rfl,d,_,rfl,hd,(12:),λr0 H1 g1 br cb cc=>⟨_,_,rfl,rfl,?_⟩⟩;refine⟨_,rfl,d,_,rfl,br,(12:),λr1 H2 g2 a8 ce cf=>⟨_,_,rfl,rfl,.inr (37:),?_⟩⟩;refine⟨(21:),λlw aw=>?_⟩;have ab:=a8.ne aw;have a9:=g1.trans g2;obtain⟨n,hn⟩: ∃n:Nat,(n:Int)=1+r0:=⟨(1+r0).toNat,by lia⟩;have cg:1<=n:=by lia
 have ch:n<=3:=by lia
 obtain⟨ap,bt,b7⟩: ∃ap:Nat,(ap:Int)=r1*3/\ap<=3:=⟨(r1*3).toNat,by lia,by lia⟩;dsimp only;rw [<-hn,<-bt];have bh:H lw=none:=by
  cases e:H lw with
  | none=>rfl
  | some u=>have:=a9 lw u ab e;rw [aw]at this;cases this
 refine⟨_,rfl,_,rfl,(by show-(2^62:Int)<=((n:Nat):Int);lia),(by show((n:Nat):Int)<2^62;lia),?_⟩;refine Zi (lo:=0) (n:=(((n:Nat):Int)).toNat) (λi σ H'=>∃(ks:List KdT)(c5 c6 c7 c8:Option V),σ=[some (.ref d),some (.int c),some (.int (n:Int)),some (.int (ap:Int)),some (.ref lw),c5,c6,c7,c8]/\SameD d H H'/\Dk H' d/\H' lw=some (.lst (ks.map λk=>V.ref k.1))/\ks.length=i/\
  ks.map (λk=>k.2.1)=(List.range i).map (λ(j:Nat)=>nmS c (j:Int))/\∀k∈ks,SqT K H' k.1 [.str k.2.1,.ref k.2.2.1]/\H' k.2.2.1=some (.lst (k.2.2.2.map λt=>V.ref t.1))/\(∀t∈k.2.2.2,RowAt K H' t)/\k.2.2.1≠d/\k.2.2.1≠lw/\RowsOk k.2.2.2/\k.2.2.2.length<=3/\(∃r∈k.2.2.2,r.2.2.2=[])/\∀r∈k.2.2.2,Pj c n r)
  ⟨[],none,none,none,none,rfl,a9.trans (SameD.of (Qe aw _)),a8.upd ab,Qb,rfl,rfl,λk M=>(nomatch M)⟩ ?_ ?_
 .rintro i σ H' hi ⟨ks,c5,c6,c7,c8,rfl,g,af,ah,ba,al,Y⟩;have ci:i<3:=by lia
  have e0:(0:Int)+(i:Int)=(i:Int):=by lia
  obtain⟨J,bb,ao,b8⟩: ∃J:Int,J=3+(ap:Int)*(0+(i:Int))/\0<=J/\J<=9:=by
   refine⟨_,rfl,?_,?_⟩
   .have:0<=(ap:Int)*(0+(i:Int)):=Int.mul_nonneg (3:) (3:);lia
   .have:(ap:Int)*(0+(i:Int))<=3*2:=Int.mul_le_mul (3:) (3:) (3:) (3:);lia
  have au:-(2^64:Int)<(ap:Int)/\(ap:Int)<2^64:=by constructor<;>lia
  refine⟨_,rfl,_,rfl,_,rfl,_,_,rfl,rfl,.inl au,_,_,rfl,rfl,c,J,(by rw [bb];rfl),?_⟩;refine⟨(21:),λp0 bu=>⟨(28:),λp1 bv=>⟨(by show 1<=sizeLine;decide),λU am=>?_⟩⟩⟩;have a0:=Qe bu (.tup []);have a1:=Qe bv (.tup [.str (nmS c J),.ref p0]);have a2:=Qe am (.lst [.ref p1]);have ai:=a0.trans (a1.trans a2);have ac:U≠d:=(af.same (a0.trans a1)).ne am;have bi:U≠lw:=λz=>by
   have:=(a0.trans a1) _ _ ah;rw [<-z,am]at this;cases this
  have aj:RowAt K (upd (upd (upd H' p0 (.tup [])) p1 (.tup [.str (nmS c J),.ref p0])) U (.lst [.ref p1])) (p1,nmS c J,p0,[]):=⟨a2.seqT (SqT.of Qb),(a1.trans a2).seqT (SqT.of Qb)⟩;have ak:upd (upd (upd H' p0 (.tup [])) p1 (.tup [.str (nmS c J),.ref p0])) U (.lst [.ref p1]) U=some (.lst [.ref p1]):=Qb;generalize (upd (upd (upd H' p0 (.tup [])) p1 (.tup [.str (nmS c J),.ref p0])) U (.lst [.ref p1]))=H3 at ai aj ak;have hd3:Dk H3 d:=af.same ai;refine⟨_,rfl,d,_,rfl,hd3,(12:),λr2 H4 g4 bw cj ck=>⟨_,rfl,(by show-(2^62:Int)<=r2;lia),(by show r2<2^62;lia),?_⟩⟩;have m4:SameD d H' H4:=(SameD.of ai).trans g4;refine Zi (lo:=0) (n:=r2.toNat) (λj σ H5=>∃(rs:List PNx)(c7 c8:Option V),σ=[some (.ref d),some (.int c),some (.int (n:Int)),some (.int (ap:Int)),some (.ref lw),some (.int (0+(i:Int))),some (.ref U),c7,c8]/\(∀b u,b≠d->b≠U->H' b=some u->H5 b=some u)/\Dk H5 d/\H5 U=some (.lst (rs.map λt=>V.ref t.1))/\rs.length=j+1/\OO c n J rs/\∀t∈rs,RowAt K H5 t)
   ⟨[(p1,nmS c J,p0,[])],c7,c8,rfl,λb u hb _ e=>m4 b u hb e,bw,g4 _ _ ac ak,rfl,⟨by simp,λr aa=>?_,⟨_,List.mem_singleton.mpr rfl,rfl⟩⟩,λt ht=>?_⟩ ?_ ?_
  .have:r=(p1,nmS c J,p0,[]):=by simpa using aa
   rw [this];exact⟨Z4 _ _,by simp,λx hx=>(nomatch hx),J,ao,by lia,rfl⟩
  .have:t=(p1,nmS c J,p0,[]):=by simpa using ht
   rw [this];exact⟨g4.seqT hd3 aj.1,g4.seqT hd3 aj.2⟩
  .rintro j σ H5 hj ⟨rs,c7,c8,rfl,m5,an,aq,ax,ad,ag⟩;have cm:j<2:=by lia
   refine⟨_,rfl,d,_,rfl,an,(12:),λr3 H6 g6 bc cn co=>⟨_,rfl,(by show-(2^62:Int)<=r3;lia),(by show r3<2^62;lia),λacc ar=>?_⟩⟩;have ay:=bc.ne ar;refine Yk (lo:=0) (n:=r3.toNat) (cs:=[some (.int c),some (.int (n:Int)),some (.ref d)]) (tt:=λ_ H Q=>Q true H) (λm ys H7=>∃zs:List Str,ys=zs.map V.str/\zs.length=m/\(∀z∈zs,z∈(List.range n).map λ(i:Nat)=>nmS c (i:Int))/\H7 acc=some (.lst ys)/\SameD d H6 H7/\Dk H7 d)
    ⟨[],rfl,rfl,λz hz=>(nomatch hz),Qb,SameD.of (Qe ar _),bc.upd ay⟩ ?_ ?_
   .rintro m ys H7 hm ⟨zs,rfl,bd,az,a3,g7,a4⟩;refine QU ⟨_,rfl,_,rfl,_,rfl,d,_,rfl,a4,(by show(0:Int)<((n:Nat):Int);lia),λr4 H8 g8 bx cp cq=>⟨c,r4,rfl,?_⟩⟩;have bj:=g8 _ _ ay a3;refine Qv (ys:=zs.map V.str) hm bj (29:) ⟨zs++[nmS c r4],by simp,by simp [bd],λz hz=>?_,Qb,λb u hb e=>?_,bx.upd ay⟩
    .rcases List.mem_append.mp hz with y | y
     .exact az z y
     .have:z=nmS c r4:=by simpa using y
      rw [this];exact List.mem_map.mpr ⟨r4.toNat,List.mem_range.mpr (3:),by rw [show((r4.toNat:Nat):Int)=r4 by lia]⟩
    .rw [Qh (Qi e ar)];exact g8 _ _ hb (g7 _ _ hb e)
   rintro ys H7 ⟨zs,rfl,bd,az,a3,g7,a4⟩;have a5:=g6.trans g7;have a6:H7 U=some (.lst (rs.map λt=>V.ref t.1)):=a5 _ _ ac aq;have en:(4:Int)+(0+(j:Int))+(ap:Int)*(0+(i:Int))=J+((j+1:Nat):Int):=by rw [bb];lia
   refine⟨_,rfl,.inl ⟨rfl,_,SqL.of a6⟩,_,rfl,_,rfl,_,_,rfl,rfl,_,rfl,_,rfl,_,_,rfl,rfl,.inl au,_,_,rfl,rfl,c,J+((j+1:Nat):Int),(by rw [<-en];rfl),_,rfl,acc,_,rfl,.inl ⟨SqL.of a3,λp5 bz=>⟨(28:),λp6 b0=>?_⟩⟩⟩;have b1:=Qe bz (.tup (zs.map V.str));have b2:=Qe b0 (.tup [.str (nmS c (J+((j+1:Nat):Int))),.ref p5]);have L:=b1.trans b2;have ae:=L _ _ a6;have m7:∀a xs,SqT K H5 a xs->SqT K (upd (upd H7 p5 (.tup (zs.map V.str))) p6 (.tup [.str (nmS c (J+((j+1:Nat):Int))),.ref p5])) a xs:=λa xs h=>L.seqT (a5.seqT an h);refine⟨U,_,_,rfl,rfl,ae,(by rw [List.length_map,Qz];lia),?_⟩;refine⟨rs++[(p6,nmS c (J+((j+1:Nat):Int)),p5,zs)],_,_,rfl,λb u hb be e=>?_,?_,by rw [Qb];simp,by simp [ax],⟨?_,λr aa=>?_,?_⟩,λt ht=>?_⟩
   .rw [Qh be];exact L _ _ (a5 _ _ hb (m5 _ _ hb be e))
   .exact(a4.same L).upd ac
   .rw [List.map_append,ad.1,List.length_append,ax];show _=(List.range (j+1+1)).map _;rw [List.range_succ (n:=j+1),List.map_append]
    rfl
   .rcases List.mem_append.mp aa with z | z
    .exact ad.2.1 r z
    .have:r=(p6,nmS c (J+((j+1:Nat):Int)),p5,zs):=by simpa using z
     rw [this];exact⟨Z4 _ _,by show zs.length<=4;lia,az,J+((j+1:Nat):Int),by lia,by lia,rfl⟩
   .obtain⟨r,aa,e⟩:=ad.2.2;exact⟨r,List.mem_append_left _ aa,e⟩
   .rcases List.mem_append.mp ht with z | z
    .exact⟨(m7 _ _ (ag t z).1).put ae,(m7 _ _ (ag t z).2).put ae⟩
    .have:t=(p6,nmS c (J+((j+1:Nat):Int)),p5,zs):=by simpa using z
     rw [this];exact⟨SqT.put (SqT.of Qb) ae,SqT.put (b2.seqT (SqT.of Qb)) ae⟩
  .rintro σ H5 ⟨rs,c7,c8,rfl,m5,an,aq,ax,ad,ag⟩;have bo:rs.length<=3:=by lia
   have as:H5 lw=some (.lst (ks.map λk=>V.ref k.1)):=m5 _ _ ab (Ne.symm bi) ah;have nd:(rs.map λt=>t.2.1).Nodup:=by rw [ad.1];exact Yo c J rs.length ao (3:)
   refine⟨_,rfl,.inl ⟨rfl,_,SqL.of as⟩,_,rfl,_,rfl,c,(i:Int),(by show [V.int c,V.int (0+(i:Int))]=_;rw [e0]),_,rfl,U,rs,rfl,SqL.of aq,(λt ht=>⟨(ag t ht).1,(ag t ht).2,λx hx=>?_⟩),nd,by lia,λa7 p hp hs av=>⟨(28:),λp9 b3=>?_⟩⟩
   .obtain⟨y,_,rfl⟩:=List.mem_map.mp ((ad.2.1 t ht).2.2.1 x hx);exact Z4 _ _
   have b1:=Qe av (.lst (a7.map λt=>V.ref t.1));have b2:=Qe b3 (.tup [.str (nmS c (i:Int)),.ref p]);have L:=b1.trans b2;have Z:=L _ _ as;have b4:p≠d:=an.ne av;have bf:p≠lw:=λz=>by rw [z,as]at av;cases av
   obtain⟨o1,o2,o3,o4⟩:=ND ad ao (3:) bo hp;refine⟨lw,_,_,rfl,rfl,Z,(by rw [List.length_map,Qz];lia),?_⟩;have mT:∀a xs,SqT K H' a xs->SqT K H5 a xs:=λa xs h=>by
    rcases h with(h | ⟨ob,h⟩) | h
    .obtain⟨b5,e'⟩:=af;refine .inl (.inl (m5 _ _ (Q3 h e' (31:)) (λz=>?_) h));have:=m4 _ _ (Q3 h e' (31:)) h;rw [z,g4 _ _ ac ak]at this;cases this
    .obtain⟨b5,e'⟩:=af;refine .inl (.inr ⟨ob,m5 _ _ (Q3 h e' (31:)) (λz=>?_) h⟩);have:=m4 _ _ (Q3 h e' (31:)) h;rw [z,g4 _ _ ac ak]at this;cases this
    .exact .inr h
   refine⟨ks++[(p9,nmS c (i:Int),p,a7)],_,_,_,_,rfl,λb u hb e=>?_,?_,by rw [Qb];simp,by simp [ba],?_,λk M=>?_⟩
   .have b6:b≠lw:=Qi e bh;rw [Qh b6];have e':=g b u hb e;have bp:b≠U:=λz=>by
     have:=ai _ _ e';have h3:=m4 b u hb e';rw [z]at e';have:H' U=none:=by
      cases ee:H' U with
      | none=>rfl
      | some uu=>have:=(a0.trans a1) _ _ ee;rw [am]at this;cases this
     rw [this]at e';cases e'
    exact L _ _ (m5 b u hb bp e')
   .exact(an.same L).upd ab
   .rw [List.map_append,al,List.range_succ,List.map_append];rfl
   .rcases List.mem_append.mp M with z | z
    .obtain⟨k1,k2,k3,k4,k5,k6,k7,k8,k9⟩:=Y k z;have bq:k.2.2.1≠U:=λzz=>by
      have:H' U=none:=by
       cases ee:H' U with
       | none=>rfl
       | some uu=>have:=(a0.trans a1) _ _ ee;rw [am]at this;cases this
      rw [zz,this]at k2;cases k2
     refine⟨(L.seqT (mT _ _ k1)).put Z,by rw [Qh k5];exact L _ _ (m5 _ _ k4 bq k2),λt ht=>⟨(L.seqT (mT _ _ (k3 t ht).1)).put Z,(L.seqT (mT _ _ (k3 t ht).2)).put Z⟩,k4,k5,k6,k7,k8,k9⟩
    .have:k=(p9,nmS c (i:Int),p,a7):=by simpa using z
     rw [this];refine⟨SqT.put ?_ Z,by rw [Qh bf];exact b2 _ _ Qb,λt ht=>?_,b4,bf,o1,o2,o3,o4⟩
     .exact SqT.of Qb
     .have bg:=ag t (hp.mem_iff.mp ht);exact⟨(L.seqT bg.1).put Z,(L.seqT bg.2).put Z⟩
 .rintro σ H' ⟨ks,c5,c6,c7,c8,rfl,g,af,ah,ba,al,Y⟩;have b9:ks.length=n:=by lia
  refine⟨_,rfl,q lw H' ks g af ⟨⟨SqL.of ah,λk M=>⟨(Y k M).1,SqL.of (Y k M).2.1,(Y k M).2.2.1⟩⟩,ab,λk M=>(Y k M).2.2.2.1⟩ ⟨⟨?_,by lia,λk M=>(Y k M).2.2.2.2.2.1⟩,by lia,by lia,λk M=>?_,λk M=>(Y k M).2.2.2.2.2.2.1,λk M=>(Y k M).2.2.2.2.2.2.2.1,λk M r aa x hx=>?_⟩ λk M r aa=>((Y k M).2.2.2.2.2.2.2.2 r aa).2.2.2⟩
  .rw [al];have:=Yo c 0 n (3:) (3:);have e:(((n:Nat):Int)).toNat=n:=by lia
   rw [e]
   simpa using this
  .have hm:k.2.1∈ks.map λk=>k.2.1:=List.mem_map.mpr ⟨k,M,rfl⟩;rw [al]at hm;obtain⟨j,_,e⟩:=List.mem_map.mp hm;rw [<-e];exact Z4 _ _
  .have:=((Y k M).2.2.2.2.2.2.2.2 r aa).2.2.1 x hx;rw [al];have e:(((n:Nat):Int)).toNat=n:=by lia
   rw [e];exact this
end
end K70
namespace ST
open PySem TM TT
mutual
noncomputable def TDr(cs:List (Int×Int)):Tm->Prop
 | .node (.call m b) _ _=>(m,b)∈cs
 | .node (.put n _ _) _ bs=>PyData.strOk n=true/\bs.length<=3/\TDrs cs bs
noncomputable def TDrs(cs:List (Int×Int)):List Tm->Prop
 | []=>True
 | b::r=>TDr cs b/\TDrs cs r
end
theorem Ze(cs:List (Int×Int))(bs:List Tm):TDrs cs bs↔ ∀b∈bs,TDr cs b:=by
 induction bs with
 | nil=>simp [TDrs]
 | cons u r G=>simp only [TDrs,G,List.mem_cons,forall_eq_or_imp]
mutual
theorem TDr.mono{cs ds:List (Int×Int)}(h:∀c∈cs,c∈ds):∀{t:Tm},TDr cs t->TDr ds t
 | .node (.call m b) _ _,z=>by simp only [TDr]at z ⊢;exact h _ z
 | .node (.put n _ _) _ bs,z=>by simp only [TDr]at z ⊢;exact⟨z.1,z.2.1,TDrs.mono h z.2.2⟩
theorem TDrs.mono{cs ds:List (Int×Int)}(h:∀c∈cs,c∈ds):∀{bs:List Tm},TDrs cs bs->TDrs ds bs
 | [],_=>by simp only [TDrs]
 | b::r,z=>by simp only [TDrs]at z ⊢;exact⟨TDr.mono h z.1,TDrs.mono h z.2⟩
end
mutual
theorem TDr.mok{cs:List (Int×Int)}:∀{t:Tm},TDr cs t->L2.MOk (2*lv t) t
 | .node (.call m b) mk bs,_=>(L2.leaf_ok m b mk bs).mono (by simp only [lv];lia)
 | .node (.put n k a) mk bs,z=>by
  simp only [TDr]at z;exact(L2.put_ok (d:=2*lvs bs) z.1 (TDrs.mok z.2.2)).mono (by simp only [lv];lia)
theorem TDrs.mok{cs:List (Int×Int)}:∀{bs:List Tm},TDrs cs bs->∀t∈bs,L2.MOk (2*lvs bs) t
 | [],_,t,h=>(nomatch h)
 | b::r,z,t,h=>by
  simp only [TDrs]at z;have i1:=TDr.mok z.1;have i2:=TDrs.mok z.2;simp only [lvs];rcases List.mem_cons.mp h with e | h
  .rw [e];exact i1.mono (3:)
  .exact(i2 t h).mono (3:)
end
theorem U3{α:Type}{bs:List (Tree α)}{n:Nat}(h:∀b∈bs,lv b<=n):lvs bs<=n:=by
 induction bs with
 | nil=>simp [lvs]
 | cons u r G=>
  simp only [lvs];have h1:=h u List.mem_cons_self;have h2:=G λb J=>h b (List.mem_cons_of_mem _ J);lia
end ST
namespace L2
open PySem PyProof.Rows TM TT ST
abbrev Cs:=List (Addr×Int×Int)
def CsAt(K:Fg)(H:Hp)(l:Addr)(cs:Cs):Prop:=SqL K H l (cs.map λt=>V.ref t.1)/\∀t∈cs,SqT K H t.1 [.int t.2.1,.int t.2.2]
def Cs.pr(cs:Cs):List (Int×Int):=cs.map λt=>t.2
theorem CsAt.sameD{K:Fg}{H H':Hp}{d l:Addr}{cs:Cs}(g:SameD d H H')(hd:Dk H d)(hl:l≠d)(h:CsAt K H l cs):CsAt K H' l cs:=⟨g.seqL hl h.1,λt G=>g.seqT hd (h.2 t G)⟩
theorem CsAt.same{K:Fg}{H H':Hp}{l:Addr}{cs:Cs}(g:Same H H')(h:CsAt K H l cs):CsAt K H' l cs:=⟨g.seq h.1,λt G=>g.seqT (h.2 t G)⟩
def csd(cs:Cs):PyData:=.list (cs.map λt=>PyData.tuple [.int t.2.1,.int t.2.2])
theorem CsAt.rdA{K:Fg}{H:Hp}:∀{cs:Cs},(∀t∈cs,SqT K H t.1 [.int t.2.1,.int t.2.2])->RdAll K H (cs.map λt=>V.ref t.1) (cs.map λt=>PyData.tuple [.int t.2.1,.int t.2.2])
 | [],_=>.nil
 | t::r,h=>.cons (.tup (h t List.mem_cons_self) (.cons (.int _) (.cons (.int _) .nil))) (CsAt.rdA λu G=>h u (19:))
theorem CsAt.rd{K:Fg}{H:Hp}{l:Addr}{cs:Cs}(h:CsAt K H l cs):RdV K H (.ref l) (csd cs):=.lst h.1 (CsAt.rdA h.2)
theorem VY:∀cs:Cs,(csd cs).canLay0=true:=λcs=>by
 unfold csd;simp only [PyData.canLay0]
 induction cs with
 | nil=>simp [PyData.canLayAll0]
 | cons t r G=>simp only [List.map_cons,PyData.canLayAll0,PyData.canLay0,G,Bool.and_self]
theorem GA(cs:Cs):PyData.eqv (csd cs) (.list [])=cs.isEmpty:=by
 unfold csd;cases cs<;>simp [PyData.eqv,PyData.eqvAll]
theorem SameD.new{d a:Addr}{H:Hp}{o:HO}(h:H a=none):SameD d H (L2.upd H a o):=SameD.of (Qe h o)
theorem UT{α:Type}{xs:List α}{r:Int}{v:α}(h0:0<=r)(h:xs[r.toNat]?=some v):atI xs r=some v:=by
 obtain⟨n,rfl⟩:=Int.eq_ofNat_of_zero_le h0;exact QB (by simpa using h)
theorem P2{X:Cx}{r1 r2:R2}(h1:IxR X r1)(h2:IxR X r2):IxR X (λx y H Q=>r1 x y H Q\/r2 x y H Q):=by
 intro value G pins s σ H x y v u Q I J L h M;rcases h with h | h
 .exact h1 value G pins s σ H x y v u Q I J L h M
 .exact h2 value G pins s σ H x y v u Q I J L h M
abbrev R3(K:Fg):R2:=λx y H Q=>X5 K x y H Q\/JL K x y H Q
end L2
namespace K70
open PySem L2 TM TT ST K9 K11
abbrev LB:Stmt:=top 20
abbrev WD:Stmt:=top 21
abbrev LZ:Stmt:=top 22
def Yc(K:Fg):Sp:=λvs H Q _=>∃(wd:Addr)(ks:List KdT)(kd:KdT),vs=[.ref wd,.str kd.2.1]/\WoodAt K H wd ks/\(ks.map λk=>k.2.1).Nodup/\ks.length<=10/\kd∈ks/\∀H',Same H H'->Q (.ref kd.2.2.1) H'
def Yj(K:Fg)(n:Nat):Sp:=λvs H Q _=>∃(d:Addr)(c:Int)(lc:Addr)(cs:Cs)(dp:Int),vs=[.ref d,.int c,.ref lc,.int dp]/\Dk H d/\CsAt K H lc cs/\lc≠d/\dp.toNat<n/\
 ∀(v:V)(H':Hp)(t:Tm),SameD d H H'->Dk H' d->TmV K H' v t->TDr cs.pr t->lv t<=dp.toNat+1->Q v H'
def UF(K:Fg)(n:Nat):Sp:=λvs H Q _=>∃(d:Addr)(c:Int)(lc:Addr)(cs:Cs)(v:V)(t:Tm),vs=[.ref d,.int c,v,.ref lc]/\Dk H d/\CsAt K H lc cs/\lc≠d/\TmV K H v t/\TDr [] t/\lv t<=n/\
 ∀(v':V)(H':Hp)(t':Tm),SameD d H H'->Dk H' d->TmV K H' v' t'->TDr cs.pr t'->lv t'<=lv t->Q v' H'
theorem J4{ks:List KdT}{kd:KdT}(hn:(ks.map λk=>k.2.1).Nodup)(hk:kd∈ks):ks.find? (λk=>decide (k.2.1=kd.2.1))=some kd:=by
 induction ks with
 | nil=>cases hk
 | cons u r J=>
  rw [List.map_cons,List.nodup_cons]at hn;rcases List.mem_cons.mp hk with e | h
  .rw [List.find?_cons,e];simp
  .have G:u.2.1≠kd.2.1:=λz=>hn.1 (by rw [z];exact List.mem_map.mpr ⟨kd,h,rfl⟩);rw [List.find?_cons,decide_eq_false G];exact J hn.2 h
section
variable{P:Program}{w:World}{K:Fg}{mg:Str->Option Value}{base:Heap}{f:Addr}{fd:FuncData}
theorem Rg:FnScope ["_law_wood_here","_law_kind"] ["_law_wood_here","_law_kind"] (defScope LB):=(1:)
theorem NN(F:Fun K "_law_rows" "_law_rows" LB f fd):FnOk P w K mg base CX0 1 f fd ["_law_wood_here","_law_kind"] (Yc K):=by
 refine F.ok Rg (7:) (λaa A outer s H vs Q E hr h=>?_)
 .obtain⟨wd,ks,G,rfl,_⟩:=h
  rfl
 obtain⟨wd,ks,G,rfl,Y,hn,hl,hk,q⟩:=h;refine⟨_,(Qg (Ql (Qk Qw (QK (CompG.many (xs:=["_law_told_here","_law_rows_here"]) (caps:=["_law_kind"]) (cap:=[1]) (cs:=[_]) rfl rfl (0:) (0:) (0:) (0:) (0:) (0:) rfl rfl rfl) rfl (QG (pv 0)) (UK (CompG.many (xs:=["_law_told_here","_law_rows_here"]) (caps:=["_law_kind"]) (cap:=[1]) (cs:=[_]) rfl rfl (0:) (0:) (0:) (0:) (0:) (0:) rfl rfl rfl) rfl) (λ_ _ _ _=>Ur (Qr Za (pv 0) (pv 2) (Qu _))) (λ_ _ _ _=>pv 1)) Qd (2:)))),?_⟩;refine⟨_,rfl,wd,rfl,⟨_,Y.1⟩,λacc M=>?_⟩;refine Y4 (K:=K) (xs:=ks.map λk=>V.ref k.1) (cs:=[some (.str G.2.1)]) (te:=Zo 1) (λi ys H'=>ys=((ks.take i).filter λk=>decide (k.2.1=G.2.1)).map (λk=>V.ref k.2.2.1)/\H' acc=some (.lst ys)/\Same H H')
  ⟨rfl,Qb,Qe M _⟩ ?_ ?_ ?_
 .rintro i ys H' _ ⟨_,_,g⟩;exact g.seq Y.1
 .rintro i x ys H' hi hx ⟨rfl,J,g⟩;have L:i<ks.length:=by simpa using hi
  obtain rfl:x=.ref ks[i].1:=by
   rw [List.getElem?_map,List.getElem?_eq_getElem L]at hx;exact(Option.some.inj hx).symm
  refine⟨ks[i].1,_,_,rfl,g.seqT (Y.2 _ (List.getElem_mem L)).1,_,rfl,_,rfl,rfl,_,rfl,?_⟩;have Z:(((ks.take i).filter λk=>decide (k.2.1=G.2.1)).map (λk=>V.ref k.2.2.1)).length<5000:=by
   rw [List.length_map];exact Nat.lt_of_le_of_lt (List.length_filter_le _ _) (by rw [List.length_take];lia)
  by_cases U:ks[i].2.1=G.2.1
  .have e:decide (V.str ks[i].2.1=V.str G.2.1)=true:=decide_eq_true (by rw [U]);rw [e];refine QU ⟨_,rfl,Qv hi J Z ⟨?_,Qb,λx u e=>by rw [Qh (Qi e M)];exact g _ _ e⟩⟩;rw [List.take_add_one,List.getElem?_eq_getElem L,List.filter_append,List.map_append];simp [U]
  .have e:decide (V.str ks[i].2.1=V.str G.2.1)=false:=decide_eq_false λz=>U (V.str.inj z);rw [e];refine Zc (ZI hi (ys:=((ks.take i).filter λk=>decide (k.2.1=G.2.1)).map (λk=>V.ref k.2.2.1)) ⟨?_,J,g⟩);rw [List.take_add_one,List.getElem?_eq_getElem L,List.filter_append];simp [U]
 rintro ys H1 ⟨rfl,J,g⟩;rw [List.length_map,List.take_length]at J;refine⟨acc,_,0,.ref G.2.2.1,rfl,rfl,SqL.of J,QB (j:=0) ?_,q H1 g⟩;rw [List.getElem?_map,<-List.head?_eq_getElem?,List.head?_filter,J4 hn hk]
 rfl
theorem Uj:FnScope ["_law_deck","_law_code","_law_calls_here","_law_deep","_law_pick","_law_parts","_law_count","_law_k","_law_name_here"] ["_law_deck","_law_code","_law_calls_here","_law_deep"] (defScope WD):=(1:)
theorem N6{n:Nat}(F:Fun K "_law_term" "_law_term" WD f fd)(G:Gm mg)(RD:Fn P w K mg base 1 "_law_draw" ["_law_deck","_law_most"] QZ)(RM:Fn P w K mg base 2 "_law_mark" ["_law_deck"] Yq)(RN:Fn P w K mg base 1 "_law_name" ["_law_code","_law_k"] ZC)
 (R:Fn P w K mg base (n+2) "_law_term" ["_law_deck","_law_code","_law_calls_here","_law_deep"] (Yj K n)):FnOk P w K mg base CX0 (n+3) f fd ["_law_deck","_law_code","_law_calls_here","_law_deep"] (Yj K (n+1)):=by
 refine F.ok Uj (7:) (λa5 A outer s H vs Q E hr h=>?_)
 .obtain⟨d,c,lc,cs,dp,rfl,_⟩:=h
  rfl
 obtain⟨d,c,lc,cs,dp,rfl,hd,as,af,a6,q⟩:=h;refine⟨_,(Qf (Qo (i:=4) Uj.nd rfl (9:) (Qp RD hr (49:) (3:)))
  (Qf (QC (LQ (PW.pt (pw_and (Qr Gd (pv 4) Qd (Qu _)) (pw_and1 (Qr Jv (pv 2) (QY Qc) (Qu _)))))) (Qg (Ql (Qs Xx (QD (Qa (Zr) Qc)) (Qk Qw (pv 2) (Qp RD hr (Qa (pv 0) (Qa (Qn Qm rfl G.len PySem.boot_len (Qa (pv 2) Qc)) Qc)) (3:)) (2:))))) Qq)
  (Qf (Qo (i:=5) Uj.nd rfl (9:) (QY Qc))
  (Qf (Uk (QC (Qr Gd (pv 3) Qd (Qu _)) (Qf (Qo (i:=6) Uj.nd rfl (9:) (Qp RD hr (49:) (3:)))
  (Qg (QL PassesOwn.never rfl (QM rfl G.rng (Qa (pv 6) Qc)) (Qt (i:=7) Uj.nd rfl (9:)) (Qg (Zw (Yp PySem.F.plainAttrs_list PySem.F.slot_list_append PySem.F.type_list_append QN (pv 5) (Qa (Qp R hr (Qa (pv 0) (Qa (pv 1) (Qa (pv 2) (Qa (Qs YW (Qs YW (pv 3) Qd) (Qs Zu (pv 6) Qd)) Qc)))) (5:)) Qc))))))) Qq))
  (Qf (Qo (i:=8) Uj.nd rfl (9:) (Qp RN hr (Qa (pv 1) (Qa (Qs Q6 Qd (Qp RD hr (49:) (3:))) Qc)) (3:)))
  (Qg (Ql (QD (Qa (Zr) (Qa (pv 8) (Qa (ZH Za (pv 4) Qd (Qu _)) (Qa (Qp RM hr (Qa (pv 0) Qc) (Nat.le_add_left 2 n)) (Qa (QR QW rfl G.tup PyProof.Rows.boot_tuple (Qa (pv 5) Qc)) Qc))))))))))))),?_⟩
 refine⟨_,rfl,d,_,rfl,hd,(12:),λr0 H1 g1 ao a7 a8=>?_⟩;have ab:=as.sameD g1 hd af;refine⟨λb H'=>SameD d H H'/\Dk H' d/\CsAt K H' lc cs/\(b=true->cs≠[]),?_,?_⟩
 .refine⟨_,rfl,_,_,rfl,rfl,_,rfl,UP (λ_=>?_) (λ_=>?_)⟩
  .refine⟨_,rfl,(21:),λp hp=>?_⟩;have ge:=Qe hp (.lst []);refine⟨csd cs,.list [],(ab.same ge).rd,.lst (SqL.of Qb) .nil,VY cs,by decide,hr.fit (Nat.le_trans (Nat.min_le_right _ _) (by simp [PyData.depth,PyData.depthAll])),_,rfl,?_⟩;rw [if_pos rfl,GA];refine⟨g1.trans (SameD.of ge),ao.same ge,ab.same ge,λhb z=>?_⟩;rw [z]at hb;simp at hb
  .exact⟨g1,ao,ab,λz=>by cases z⟩
 rintro b H2 ⟨g2,U,ac,au⟩;refine G1 (λhb=>?_) (λ_=>?_)
 .have aq:=au hb;have aj:0<cs.length:=List.length_pos_iff.mpr aq;refine⟨(by show 1<=sizeLine;decide),λp hp=>⟨_,rfl,_,rfl,_,rfl,lc,_,rfl,.inl ((ac.same (Qe hp _)).1),d,_,rfl,U.same (Qe hp _),(by rw [List.length_map];show(0:Int)<((cs.length:Nat):Int);lia),λr H3 g3 hd3 av aw=>?_⟩⟩;have ga:=Qe hp (.tup [.str Yi]);have ak:=(ac.same ga).sameD g3 (U.same ga) af;rw [List.length_map]at aw;obtain⟨x,hx⟩: ∃x,cs[r.toNat]?=some x:=(26:);have ap:=List.mem_of_getElem? hx;refine⟨lc,_,_,.ref x.1,rfl,rfl,ak.1,UT av (by rw [List.getElem?_map,hx];rfl),?_⟩;have ax:=ak.2 _ ap;refine⟨p,x.1,[.str Yi],[.int x.2.1,.int x.2.2],rfl,rfl,g3.seqT (U.same ga) (SqT.of Qb),ax,(by show 3<=sizeLine;decide),λp4 H4 g4 ay=>?_⟩;refine q (.ref p4) H4 (.node (.call x.2.1 x.2.2) 0 []) (g2.trans ((SameD.of ga).trans (g3.trans (SameD.of g4)))) (hd3.same g4) (.call ay) ?_ (by simp only [lv,lvs];lia);simp only [TDr];exact List.mem_map.mpr ⟨x,ap,rfl⟩
 refine⟨(21:),λlp ag=>?_⟩;have L:=U.ne ag;refine⟨λaz H'=>∃(M:List V)(J:List Tm)(c6 c7:Option V),az=[some (.ref d),some (.int c),some (.ref lc),some (.int dp),some (.int r0),some (.ref lp),c6,c7,none]/\SameD d H2 H'/\Dk H' d/\H' lp=some (.lst M)/\TmAll K H' M J/\J.length<=3/\∀t∈J,TDr cs.pr t/\lv t<=dp.toNat,?_,?_⟩
 .refine⟨_,rfl,_,_,rfl,rfl,_,rfl,UP (λhc=>?_) (λ_=>?_)⟩
  .have a9:dp>0:=of_decide_eq_true hc;refine⟨_,rfl,d,_,rfl,U.upd L,(12:),λcn H3 g3 hd3 a0 ba=>⟨_,rfl,_,rfl,(by show-(2^62:Int)<=cn;lia),(by show cn<2^62;lia),?_⟩⟩;have ad:H3 lp=some (.lst []):=g3 _ _ L Qb;refine Zi (lo:=0) (n:=cn.toNat) (λi σ H'=>∃(M:List V)(J:List Tm)(c7:Option V),σ=[some (.ref d),some (.int c),some (.ref lc),some (.int dp),some (.int r0),some (.ref lp),some (.int cn),c7,none]/\SameD d H2 H'/\Dk H' d/\H' lp=some (.lst M)/\TmAll K H' M J/\J.length=i/\∀t∈J,TDr cs.pr t/\lv t<=dp.toNat)
    ⟨[],[],none,rfl,(SameD.new ag).trans g3,hd3,ad,.nil,rfl,λt ht=>(nomatch ht)⟩ ?_ ?_
   .rintro i σ H' hi ⟨M,J,c7,rfl,g,ah,aa,Y,ai,Z⟩;have aj:=Y.length;have e3:0<=cn/3:=Int.ediv_nonneg a0 (12:);refine⟨_,rfl,.inl ⟨rfl,_,SqL.of aa⟩,_,rfl,_,rfl,_,rfl,_,rfl,_,_,rfl,rfl,_,rfl,_,_,rfl,rfl,(37:),_,_,rfl,rfl,d,c,lc,cs,dp-1-cn/3,rfl,ah,ac.sameD g U af,af,by lia,λv H4 t g4 al hv ht hl=>?_⟩;have ae:=g4 _ _ L aa;refine⟨lp,M,_,rfl,rfl,ae,(by rw [Qz];lia),?_⟩;refine⟨M++[v],J++[t],_,rfl,(g.trans g4).put ag,al.upd L,Qb,?_,by simp [ai],λu hu=>?_⟩
    .exact TmAll.append (Y.mono λ_ _ h=>(g4.seqT ah h).put ae) (.cons (hv.mono λ_ _ h=>h.put ae) .nil)
    .rcases List.mem_append.mp hu with z | z
     .exact Z u z
     .have:u=t:=by simpa using z
      rw [this];exact⟨ht,by lia⟩
   .rintro σ H' ⟨M,J,c7,rfl,g,ah,aa,Y,ai,Z⟩;exact⟨M,J,_,_,rfl,g,ah,aa,Y,by lia,Z⟩
  .exact⟨[],[],none,none,rfl,SameD.new ag,U.upd L,Qb,.nil,by simp,λt ht=>(nomatch ht)⟩
 rintro az H3 ⟨M,J,c6,c7,rfl,g3,hd3,ad,Y,ai,Z⟩;have aj:=Y.length;refine⟨_,rfl,_,rfl,d,_,rfl,hd3,(12:),λr1 H4 g4 al bb bc=>⟨_,_,rfl,rfl,c,_,rfl,?_⟩⟩;refine⟨_,rfl,_,rfl,rfl,_,rfl,d,rfl,al,λmk H5 g5 a1=>?_⟩;have am:=g4.trans g5;have ar:=am _ _ L ad;refine⟨_,rfl,lp,M,rfl,.inl ⟨SqL.of ar,λpt a3=>⟨(by show 5<=sizeLine;decide),λpp a4=>?_⟩⟩⟩;have ga:=Qe a3 (.tup M);have gb:=Qe a4 (.tup [.str PUT,.str (nmS c (3+r1)),.bl (decide (V.int r0=V.int 0)),.int mk,.ref pt]);have an:=ga.trans gb;refine q (.ref pp) _ (.node (.put (nmS c (3+r1)) (decide (V.int r0=V.int 0)) mk) 0 J) (g2.trans (g3.trans (am.trans (SameD.of an)))) (a1.same an) (.put (SqT.of Qb) (gb.seqT (SqT.of Qb)) (Y.mono λ_ _ h=>an.seqT (am.seqT hd3 h)) (3:)) ?_ ?_
 .simp only [TDr];exact⟨Z4 _ _,ai,(Ze _ J).mpr λb hb=>(Z b hb).1⟩
 .simp only [lv];have:=U3 λb hb=>(Z b hb).2;lia
theorem Lw{k:Nat}:FnOk P w K mg base CX0 k f fd ["_law_deck","_law_code","_law_calls_here","_law_deep"] (Yj K 0):=by
 have G:∀vs H Q E,¬Yj K 0 vs H Q E:=λvs H Q E h=>by
  obtain⟨d,c,L,cs,M,_,_,_,_,U,_⟩:=h;lia
 exact⟨λvs H Q E h=>absurd h (G vs H Q E),λA outer s H J Y vs Q E _ _ _ _ h=>absurd h (G vs H Q E)⟩
theorem WW(F:Fun K "_law_term" "_law_term" WD f fd)(G:Gm mg)(RD:Fn P w K mg base 1 "_law_draw" ["_law_deck","_law_most"] QZ)(RM:Fn P w K mg base 2 "_law_mark" ["_law_deck"] Yq)(RN:Fn P w K mg base 1 "_law_name" ["_law_code","_law_k"] ZC)
 (hb:Binds K fd ["_law_deck","_law_code","_law_calls_here","_law_deep"] []) (hm:mg "_law_term"=some (.ref f)):∀n:Nat,FnOk P w K mg base CX0 (n+2) f fd ["_law_deck","_law_code","_law_calls_here","_law_deep"] (Yj K n)
 | 0=>Lw
 | n+1=>N6 F G RD RM RN ⟨f,fd,WW F G RD RM RN hb hm n,hb,F.kp,hm⟩
end
end K70
namespace K70
open PySem L2 TM TT ST K9 K11
abbrev VJ:Stmt:=top 23
abbrev M0:Stmt:=top 24
abbrev WK:Stmt:=top 26
def CsF(kn bs:List Str)(cs:Cs):Prop:=∀t∈cs,∃(k j:Nat)(z:Str),t.2=((k:Int),(j:Int))/\kn[k]?=some z/\bs[j]?=some z
def X8(K:Fg):Sp:=λvs H Q _=>∃(lk bv:Addr)(kn bs:List Str),vs=[.ref lk,.ref bv]/\SqL K H lk (kn.map V.str)/\(SqL K H bv (bs.map V.str)\/SqT K H bv (bs.map V.str))/\kn.length<=10/\bs.length<=10/\
 ∀(l:Addr)(H':Hp)(cs:Cs),Same H H'->H l=none->CsAt K H' l cs->CsF kn bs cs->cs.length<=100->Q (.ref l) H'
def Vo(K:Fg):Sp:=λvs H Q _=>∃(d:Addr)(c:Int)(lc:Addr)(cs:Cs)(v:V)(t:Tm),vs=[.ref d,.int c,v,.ref lc]/\Dk H d/\CsAt K H lc cs/\lc≠d/\TmV K H v t/\TDr [] t/\lv t<=3/\
 ∀(v':V)(H':Hp)(t':Tm),SameD d H H'->Dk H' d->TmV K H' v' t'->TDr cs.pr t'->lv t'<=3->Q v' H'
def Yu(K:Fg)(n:Nat):Sp:=λvs H Q _=>∃(v:V)(t:Tm)(cs:List (Int×Int)),vs=[v]/\TmV K H v t/\TDr cs t/\lv t<=n/\∀(v':V)(H':Hp)(t':Tm),Same H H'->TmV K H' v' t'->TDr cs t'->lv t'<=lv t->Q v' H'
theorem tm_op{K:Fg}{H:Hp}{v:V}{t:Tm}(h:TmV K H v t):(∃a m b,v=.ref a/\t=.node (.call m b) 0 []/\SqT K H a [.str Yi,.int m,.int b]) \/
 ∃a b vs n k ad ts,v=.ref a/\t=.node (.put n k ad) 0 ts/\SqT K H a [.str PUT,.str n,.bl k,.int ad,.ref b]/\SqT K H b vs/\TmAll K H vs ts/\vs.length<=1000:=by
 cases h with
 | call h=>exact .inl ⟨_,_,_,rfl,rfl,h⟩
 | put h1 h2 G J=>exact .inr ⟨_,_,_,_,_,_,_,rfl,rfl,h1,h2,G,J⟩
section
variable{P:Program}{w:World}{K:Fg}{mg:Str->Option Value}{base:Heap}{f:Addr}{fd:FuncData}
theorem Gy:FnScope ["_law_deck","_law_code","_law_term_here","_law_calls_here","_law_pick","_law_name_here","_law_parts"] ["_law_deck","_law_code","_law_term_here","_law_calls_here"] (defScope LZ):=(1:)
theorem PX{n:Nat}(F:Fun K "_law_changed" "_law_changed" LZ f fd)(G:Gm mg)(RD:Fn P w K mg base 1 "_law_draw" ["_law_deck","_law_most"] QZ)(RM:Fn P w K mg base 2 "_law_mark" ["_law_deck"] Yq)(RN:Fn P w K mg base 1 "_law_name" ["_law_code","_law_k"] ZC)
 (R:Fn P w K mg base (n+2) "_law_changed" ["_law_deck","_law_code","_law_term_here","_law_calls_here"] (UF K n)):FnOk P w K mg base CX0 (n+3) f fd ["_law_deck","_law_code","_law_term_here","_law_calls_here"] (UF K (n+1)):=by
 refine F.ok Gy (7:) (λba A outer s H vs Q E hr h=>?_)
 .obtain⟨d,c,lc,cs,v,t,rfl,_⟩:=h
  rfl
 obtain⟨d,c,lc,cs,v,t,rfl,hd,ax,ah,ht,ai,ay,q⟩:=h;refine⟨_,(Qf (Qo (i:=4) Gy.nd rfl (9:) (Qp RD hr (49:) (3:)))
  (Qf (QC (LQ (PW.pt (pw_and (Qr Za (pv 4) Qd (Qu _)) (pw_and1 (Qr Jv (pv 3) (QY Qc) (Qu _)))))) (Qg (Ql (Qs Xx (QD (Qa (Zr) Qc)) (Qk Qw (pv 3) (Qp RD hr (Qa (pv 0) (Qa (Qn Qm rfl G.len PySem.boot_len (Qa (pv 3) Qc)) Qc)) (3:)) (2:))))) Qq)
  (Qf (QC (Qr Za (pv 4) Qd (Qu _)) (Qf (Qo (i:=5) Gy.nd rfl (9:) (Qp RN hr (Qa (pv 1) (Qa (Qs Q6 Qd (Qp RD hr (49:) (3:))) Qc)) (3:)))
  (Qg (Ql (QD (Qa (Zr) (Qa (pv 5) (Qa (ZN) (Qa (Qp RM hr (Qa (pv 0) Qc) (Nat.le_add_left 2 n)) (Qa (QD Qc) Qc))))))))) Qq)
  (Qf (ZO (i:=6) (CompG.many (xs:=["_law_part"]) (caps:=["_law_calls_here","_law_code","_law_deck"]) (cap:=[3,1,0]) (cs:=[_,_,_]) rfl rfl (0:) (0:) (0:) (0:) (0:) (0:) rfl rfl rfl) rfl (Yl (Qk Qj (pv 2) Qd (2:))) (Z0 (CompG.many (xs:=["_law_part"]) (caps:=["_law_calls_here","_law_code","_law_deck"]) (cap:=[3,1,0]) (cs:=[_,_,_]) rfl rfl (0:) (0:) (0:) (0:) (0:) (0:) rfl rfl rfl)) (λ_ _ _ _=>QX) (λ_ _ _ _=>Qp R hr (Qa (pv 3) (Qa (pv 2) (Qa (pv 0) (Qa (pv 1) Qc)))) (5:)) Gy.nd rfl rfl)
  (Qg (Ql (QD (Qa (Zr) (Qa (Qk Qj (pv 2) Qd (2:)) (Qa (Vc (Qk Qj (pv 2) Qd (2:)) (VD (ZH GD (pv 4) Qd (Qu _)))) (Qa (Qk Qj (pv 2) Qd (2:)) (Qa (QR QW rfl G.tup PyProof.Rows.boot_tuple (Qa (pv 6) Qc)) Qc)))))))))))),?_⟩
 refine⟨_,rfl,d,_,rfl,hd,(12:),λr0 H1 g1 aq bb bc=>?_⟩;have ac:=ax.sameD g1 hd ah;have bd:1<=lv t:=by rw [Q4];lia
 refine⟨λb H'=>SameD d H H'/\Dk H' d/\CsAt K H' lc cs/\(b=true->cs≠[]),?_,?_⟩
 .refine⟨_,rfl,rfl,_,rfl,UP (λ_=>?_) (λ_=>?_)⟩
  .refine⟨_,rfl,(21:),λp hp=>?_⟩;have ge:=Qe hp (.lst []);refine⟨csd cs,.list [],(ac.same ge).rd,.lst (SqL.of Qb) .nil,VY cs,by decide,hr.fit (Nat.le_trans (Nat.min_le_right _ _) (by simp [PyData.depth,PyData.depthAll])),_,rfl,?_⟩;rw [if_pos rfl,GA];refine⟨g1.trans (SameD.of ge),aq.same ge,ac.same ge,λhb z=>?_⟩;rw [z]at hb;simp at hb
  .exact⟨g1,aq,ac,λz=>by cases z⟩
 rintro b H2 ⟨g2,J,ae,az⟩;refine G1 (λhb=>?_) (λ_=>?_)
 .have aw:=az hb;have am:0<cs.length:=List.length_pos_iff.mpr aw;refine⟨(by show 1<=sizeLine;decide),λp hp=>⟨_,rfl,_,rfl,_,rfl,lc,_,rfl,.inl ((ae.same (Qe hp _)).1),d,_,rfl,J.same (Qe hp _),(by rw [List.length_map];show(0:Int)<((cs.length:Nat):Int);lia),λr H3 g3 hd3 a0 a3=>?_⟩⟩;have ga:=Qe hp (.tup [.str Yi]);have an:=(ae.same ga).sameD g3 (J.same ga) ah;rw [List.length_map]at a3;obtain⟨x,hx⟩: ∃x,cs[r.toNat]?=some x:=(26:);have ar:=List.mem_of_getElem? hx;refine⟨lc,_,_,.ref x.1,rfl,rfl,an.1,UT a0 (by rw [List.getElem?_map,hx];rfl),?_⟩;have ao:=an.2 _ ar;refine⟨p,x.1,[.str Yi],[.int x.2.1,.int x.2.2],rfl,rfl,g3.seqT (J.same ga) (SqT.of Qb),ao,(by show 3<=sizeLine;decide),λp4 H4 L a4=>?_⟩;refine q (.ref p4) H4 (.node (.call x.2.1 x.2.2) 0 []) (g2.trans ((SameD.of ga).trans (g3.trans (SameD.of L)))) (hd3.same L) (.call a4) ?_ (by simp only [lv,lvs];lia);simp only [TDr];exact List.mem_map.mpr ⟨x,ar,rfl⟩
 refine⟨_,rfl,rfl,_,rfl,UP (λ_=>?_) (λ_=>?_)⟩
 .refine⟨_,rfl,_,rfl,d,_,rfl,J,(12:),λr1 H4 L aa be bf=>⟨_,_,rfl,rfl,c,_,rfl,?_⟩⟩;refine⟨_,rfl,_,rfl,d,rfl,aa,λmk H5 g5 a5=>⟨(21:),λpt M=>⟨(by show 5<=sizeLine;decide),λU Y=>?_⟩⟩⟩;have ga:=Qe M (.tup []);have gb:=Qe Y (.tup [.str PUT,.str (nmS c (3+r1)),.bl false,.int mk,.ref pt]);have Z:=ga.trans gb;refine q (.ref U) _ (.node (.put (nmS c (3+r1)) false mk) 0 []) (g2.trans (L.trans (g5.trans (SameD.of Z)))) (a5.same Z) (.put (SqT.of Qb) (gb.seqT (SqT.of Qb)) .nil (22:)) ?_ (by simp only [lv,lvs];lia);simp only [TDr,TDrs];exact⟨Z4 _ _,by simp,trivial⟩
 rcases tm_op ht with⟨a,m,b,rfl,rfl,h1⟩ | ⟨a,b,bs,nm,k,ad,ts,rfl,rfl,h1,h2,h3,h4⟩
 .simp [TDr]at ai
 have l3:=h3.length;simp only [TDr]at ai;simp only [lv]at ay q;have a6:=g2.seqT hd h1;refine⟨_,rfl,a,_,4,_,rfl,rfl,a6,rfl,b,rfl,⟨_,g2.seqT hd h2⟩,λacc af=>?_⟩;have ap:=J.ne af;refine Yn (K:=K) (xs:=bs) (cs:=[some (.ref lc),some (.int c),some (.ref d)]) (tt:=λ_ H Q=>Q true H) (te:=J9 (UF K n) [] E0 (Zm (Zo 3) (Zm (Zo 2) (Zm (Zo 0) (Zm (Zo 1) UQ))))) (λi ys H'=>∃us:List Tm,H' acc=some (.lst ys)/\SameD d H2 H'/\Dk H' d/\TmAll K H' ys us/\us.length=i/\∀u∈us,TDr cs.pr u/\lv u<=lvs ts)
  ⟨[],Qb,SameD.new af,J.upd ap,.nil,rfl,λt ht=>(nomatch ht)⟩ ?_ ?_ ?_
 .rintro i ys H' _ ⟨us,_,g,_⟩;exact(g2.trans g).seqT hd h2
 .rintro i x ys H' hi hx ⟨us,aj,g,as,ab,au,ak⟩;have av:i<ts.length:=by lia
  have am:=ab.length;obtain⟨cv,a7,ao⟩:=h3.get (List.getElem?_eq_getElem av);obtain rfl:cv=x:=Option.some.inj (a7.symm.trans hx);have hm:=List.getElem_mem av;have a1:=Yg hm;refine QU ⟨_,rfl,_,rfl,_,rfl,_,rfl,d,c,lc,cs,cv,ts[i],rfl,as,ae.sameD g J ah,ah,ao.mono λ_ _=>(g2.trans g).seqT hd,(Ze _ ts).mp ai.2.2 _ hm,by lia,λv4 H4 t4 L aa a8 a9 bg=>?_⟩;have ag:=L _ _ ap aj;refine Qv (ys:=ys) hi ag (3:) ⟨us++[t4],Qb,(g.trans L).put af,aa.upd ap,?_,by simp [au],λu hu=>?_⟩
  .exact TmAll.append (ab.mono λ_ _ h=>(L.seqT as h).put ag) (.cons (a8.mono λ_ _ h=>h.put ag) .nil)
  .rcases List.mem_append.mp hu with z | z
   .exact ak u z
   .have:u=t4:=by simpa using z
    rw [this];exact⟨a9,by lia⟩
 rintro ys H4 ⟨us,aj,L,aa,ab,au,ak⟩;have am:=ab.length;have al:=(g2.trans L).seqT hd h1;have fin:∀kb:Bool,∀pt,H4 pt=none->∀U,upd H4 pt (.tup ys) U=none->Q (.ref U) (upd (upd H4 pt (.tup ys)) U (.tup [.str PUT,.str nm,.bl kb,.int ad,.ref pt])):=λkb pt M U Y=>by
  have ga:=Qe M (.tup ys);have gb:=Qe Y (.tup [.str PUT,.str nm,.bl kb,.int ad,.ref pt]);have Z:=ga.trans gb;refine q (.ref U) _ (.node (.put nm kb ad) 0 us) (g2.trans (L.trans (SameD.of Z))) (aa.same Z) (.put (SqT.of Qb) (gb.seqT (SqT.of Qb)) (ab.mono λ_ _=>Z.seqT) (3:)) ?_ ?_
  .simp only [TDr];exact⟨ai.1,by lia,(Ze _ us).mpr λb hb=>(ak b hb).1⟩
  .simp only [lv];have:=U3 λb hb=>(ak b hb).2;lia
 refine⟨_,rfl,a,_,1,_,rfl,rfl,al,rfl,_,rfl,a,_,2,_,rfl,rfl,al,rfl,_,rfl,?_⟩;cases k with
 | true=>
  refine QU ⟨_,rfl,_,_,rfl,rfl,_,rfl,a,_,3,_,rfl,rfl,al,rfl,_,rfl,acc,ys,rfl,.inl ⟨SqL.of aj,λpt M=>⟨(by show 5<=sizeLine;decide),λU Y=>?_⟩⟩⟩;exact fin _ pt M U Y
 | false=>
  refine Zc ⟨_,rfl,a,_,3,_,rfl,rfl,al,rfl,_,rfl,acc,ys,rfl,.inl ⟨SqL.of aj,λpt M=>⟨(by show 5<=sizeLine;decide),λU Y=>?_⟩⟩⟩;exact fin _ pt M U Y
theorem Mo{k:Nat}:FnOk P w K mg base CX0 k f fd ["_law_deck","_law_code","_law_term_here","_law_calls_here"] (UF K 0):=by
 have G:∀vs H Q E,¬UF K 0 vs H Q E:=λvs H Q E h=>by
  obtain⟨d,c,M,cs,v,t,_,_,_,_,_,_,J,_⟩:=h;rw [Q4]at J;lia
 exact(58:)
theorem Gr(F:Fun K "_law_changed" "_law_changed" LZ f fd)(G:Gm mg)(RD:Fn P w K mg base 1 "_law_draw" ["_law_deck","_law_most"] QZ)(RM:Fn P w K mg base 2 "_law_mark" ["_law_deck"] Yq)(RN:Fn P w K mg base 1 "_law_name" ["_law_code","_law_k"] ZC)
 (hb:Binds K fd ["_law_deck","_law_code","_law_term_here","_law_calls_here"] []) (hm:mg "_law_changed"=some (.ref f)):∀n:Nat,FnOk P w K mg base CX0 (n+2) f fd ["_law_deck","_law_code","_law_term_here","_law_calls_here"] (UF K n)
 | 0=>Mo
 | n+1=>PX F G RD RM RN ⟨f,fd,Gr F G RD RM RN hb hm n,hb,F.kp,hm⟩
theorem M7:FnScope ["_law_deck","_law_code","_law_base","_law_calls_here","_law_way"] ["_law_deck","_law_code","_law_base","_law_calls_here"] (defScope M0):=(1:)
theorem NO(F:Fun K "_law_rule" "_law_rule" M0 f fd)(RD:Fn P w K mg base 1 "_law_draw" ["_law_deck","_law_most"] QZ)(RC:Fn P w K mg base 5 "_law_changed" ["_law_deck","_law_code","_law_term_here","_law_calls_here"] (UF K 3))(RT:Fn P w K mg base 5 "_law_term" ["_law_deck","_law_code","_law_calls_here","_law_deep"] (Yj K 3)):FnOk P w K mg base CX0 6 f fd ["_law_deck","_law_code","_law_base","_law_calls_here"] (Vo K):=by
 refine F.ok M7 (7:) (λaf A outer s H vs Q E hr h=>?_)
 .obtain⟨d,c,lc,cs,v,t,rfl,_⟩:=h
  rfl
 obtain⟨d,c,lc,cs,v,t,rfl,hd,ae,G,ht,aa,ab,q⟩:=h;refine⟨_,(Qf (Qo (i:=4) M7.nd rfl (9:) (Qp RD hr (49:)))
  (Qf (QC (Qr Za (pv 4) Qd (Qu _)) (Qg (Ql (pv 2))) Qq)
  (Qf (QC (Qr Za (pv 4) Qd (Qu _)) (Qg (Ql (Qp RC hr (Qa (pv 0) (Qa (pv 1) (Qa (pv 2) (Qa (pv 3) Qc))))))) Qq)
  (Qg (Ql (Qp RT hr (Qa (pv 0) (Qa (pv 1) (Qa (pv 3) (Qa (Qd) Qc)))))))))),?_⟩
 refine⟨_,rfl,d,_,rfl,hd,(12:),λr0 H1 J L ag ah=>?_⟩;have M:=ae.sameD J hd G;have ac:TmV K H1 v t:=ht.mono λ_ _=>J.seqT hd;refine⟨_,rfl,rfl,_,rfl,UP (λ_=>?_) (λ_=>?_)⟩
 .exact⟨_,rfl,q v H1 t J L ac (aa.mono (cs:=[]) λc hc=>by cases hc) ab⟩
 refine⟨_,rfl,rfl,_,rfl,UP (λ_=>?_) (λ_=>?_)⟩
 .refine⟨_,rfl,_,rfl,_,rfl,_,rfl,d,c,lc,cs,v,t,rfl,L,M,G,ac,aa,ab,λv' H2 t' g2 U Y Z ad=>?_⟩;exact q v' H2 t' (J.trans g2) U Y Z (3:)
 .refine⟨_,rfl,_,rfl,_,rfl,d,c,lc,cs,2,rfl,L,M,G,by decide,λv' H2 t' g2 U Y Z ad=>?_⟩;exact q v' H2 t' (J.trans g2) U Y Z ad
theorem Po:FnScope ["_law_term_here"] ["_law_term_here"] (defScope WK):=(1:)
theorem OH{n:Nat}(F:Fun K "_law_bare" "_law_bare" WK f fd)(G:Gm mg)(R:Fn P w K mg base n "_law_bare" ["_law_term_here"] (Yu K n)):FnOk P w K mg base CX0 (n+1) f fd ["_law_term_here"] (Yu K (n+1)):=by
 refine F.ok Po (7:) (λao A outer s H vs Q E hr h=>?_)
 .obtain⟨v,t,cs,rfl,_⟩:=h
  rfl
 obtain⟨v,t,cs,rfl,ht,U,ag,q⟩:=h;refine⟨_,(Qf (QC (Qr Za (25:) Zr (Qu _)) (Qg (Ql (pv 0))) Qq)
  (Qg (Ql (QD (Qa (Zr) (Qa (25:) (Qa (ZN) (Qa (25:) (Qa (QR QW rfl G.tup PyProof.Rows.boot_tuple (Qa (QK (CompG.many (xs:=["_law_part"]) (caps:=[]) (cap:=[]) (cs:=[]) rfl rfl (0:) (0:) (0:) (0:) (0:) (0:) rfl rfl rfl) rfl (Yl (25:)) (Z0 (CompG.many (xs:=["_law_part"]) (caps:=[]) (cap:=[]) (cs:=[]) rfl rfl (0:) (0:) (0:) (0:) (0:) (0:) rfl rfl rfl)) (λ_ _ _ _=>QX) (λ_ _ _ _=>Qp R hr (Qa (pv 0) Qc) (5:))) Qc)) Qc))))))))),?_⟩
 have ah:¬V.str PUT=V.str Yi:=by decide+kernel
 rcases tm_op ht with⟨a,m,b,rfl,rfl,h1⟩ | ⟨a,b,bs,nm,k,ad,ts,rfl,rfl,h1,h2,h3,h4⟩
 .exact⟨_,rfl,a,_,0,_,rfl,rfl,h1,rfl,rfl,_,rfl,JJ rfl ⟨_,rfl,q _ H _ (Same.refl _) ht U (5:)⟩⟩
 refine⟨_,rfl,a,_,0,_,rfl,rfl,h1,rfl,rfl,_,rfl,JO ah ?_⟩;have l3:=h3.length;simp only [TDr]at U;simp only [lv]at ag q;refine⟨_,rfl,a,_,1,_,rfl,rfl,h1,rfl,_,rfl,a,_,3,_,rfl,rfl,h1,rfl,_,rfl,a,_,4,_,rfl,rfl,h1,rfl,b,rfl,⟨_,h2⟩,λacc Z=>?_⟩;refine Yn (K:=K) (xs:=bs) (cs:=[]) (tt:=λ_ H Q=>Q true H) (te:=J9 (Yu K n) [] E0 (Zm (Zo 0) UQ)) (λi ys H'=>∃J:List Tm,H' acc=some (.lst ys)/\Same H H'/\TmAll K H' ys J/\J.length=i/\∀u∈J,TDr cs u/\lv u<=lvs ts)
  ⟨[],Qb,Qe Z _,.nil,rfl,λt ht=>(nomatch ht)⟩ ?_ ?_ ?_
 .rintro i ys H' _ ⟨J,_,g,_⟩;exact g.seqT h2
 .rintro i x ys H' hi hx ⟨J,aa,g,L,ab,Y⟩;have ac:i<ts.length:=by lia
  have af:=L.length;obtain⟨cv,ai,aj⟩:=h3.get (List.getElem?_eq_getElem ac);obtain rfl:cv=x:=Option.some.inj (ai.symm.trans hx);have hm:=List.getElem_mem ac;have a1:=Yg hm;refine QU ⟨_,rfl,cv,ts[i],cs,rfl,aj.mono λ_ _=>g.seqT,(Ze _ ts).mp U.2.2 _ hm,by lia,λv4 H4 t4 g4 ak al ap=>?_⟩;have M:=g4 _ _ aa;refine Qv (ys:=ys) hi M (3:) ⟨J++[t4],Qb,λx u e=>by rw [Qh (Qi e Z)];exact g4 _ _ (g _ _ e),?_,by simp [ab],λu hu=>?_⟩
  .exact TmAll.append (L.mono λ_ _ h=>(g4.seqT h).put M) (.cons (ak.mono λ_ _ h=>h.put M) .nil)
  .rcases List.mem_append.mp hu with z | z
   .exact Y u z
   .have:u=t4:=by simpa using z
    rw [this];exact⟨al,by lia⟩
 rintro ys H4 ⟨J,aa,g4,L,ab,Y⟩;have af:=L.length;refine⟨acc,ys,rfl,.inl ⟨SqL.of aa,λpt am=>⟨(by show 5<=sizeLine;decide),λpp an=>?_⟩⟩⟩;have ga:=Qe am (.tup ys);have gb:=Qe an (.tup [.str PUT,.str nm,.bl false,.int ad,.ref pt]);have ae:=ga.trans gb;refine q (.ref pp) _ (.node (.put nm false ad) 0 J) (g4.trans ae) (.put (SqT.of Qb) (gb.seqT (SqT.of Qb)) (L.mono λ_ _=>ae.seqT) (3:)) ?_ ?_
 .simp only [TDr];exact⟨U.1,by lia,(Ze _ J).mpr λb hb=>(Y b hb).1⟩
 .simp only [lv];have:=U3 λb hb=>(Y b hb).2;lia
theorem G8{k:Nat}:FnOk P w K mg base CX0 k f fd ["_law_term_here"] (Yu K 0):=by
 have G:∀vs H Q E,¬Yu K 0 vs H Q E:=λvs H Q E h=>by
  obtain⟨v,t,cs,_,_,_,J,_⟩:=h;rw [Q4]at J;lia
 exact⟨λvs H Q E h=>absurd h (G vs H Q E),λA outer s H L M vs Q E _ _ _ _ h=>absurd h (G vs H Q E)⟩
theorem WT(F:Fun K "_law_bare" "_law_bare" WK f fd)(G:Gm mg)(hb:Binds K fd ["_law_term_here"] [])(hm:mg "_law_bare"=some (.ref f)):∀n:Nat,FnOk P w K mg base CX0 n f fd ["_law_term_here"] (Yu K n)
 | 0=>G8
 | n+1=>OH F G ⟨f,fd,WT F G hb hm n,hb,F.kp,hm⟩
end
end K70
namespace K70
open PySem L2 TM TT ST K9 K11
section
variable{P:Program}{w:World}{K:Fg}{mg:Str->Option Value}{base:Heap}{f:Addr}{fd:FuncData}
theorem UU:FnScope ["_law_kinds","_law_branches","_law_found","_law_k","_law_j"] ["_law_kinds","_law_branches"] (defScope VJ):=(1:)
theorem M9(F:Fun K "_law_calls" "_law_calls" VJ f fd)(G:Gm mg):FnOk P w K mg base CX0 1 f fd ["_law_kinds","_law_branches"] (X8 K):=by
 refine F.ok UU (7:) (λak A outer s H vs Q E hr h=>?_)
 .obtain⟨lk,Y,U,bs,rfl,_⟩:=h
  rfl
 obtain⟨lk,Y,U,bs,rfl,hk,hb,al,am,q⟩:=h;refine⟨_,(Qf (Qo (i:=2) UU.nd rfl (9:) (QY Qc))
  (Qf (QL PassesOwn.never rfl (QM rfl G.rng (Qa (Qn Qm rfl G.len PySem.boot_len (Qa (pv 0) Qc)) Qc)) (Qt (i:=3) UU.nd rfl (9:)) (Qg
   (QL PassesOwn.never rfl (QM rfl G.rng (Qa (Qn Qm rfl G.len PySem.boot_len (Qa (pv 1) Qc)) Qc)) (Qt (i:=4) UU.nd rfl (9:)) (Qg
    (QC (Qr Za (Qk Qw (pv 0) (pv 3) (2:)) (Qk (P2 Qw Qj) (pv 1) (pv 4) (2:)) (Qu _)) (Qg (Zw (Yp PySem.F.plainAttrs_list PySem.F.slot_list_append PySem.F.type_list_append QN (pv 2) (Qa ((QD (Qa (pv 3) (Qa (pv 4) Qc)))) Qc)))) Qq)))))
  (Qg (Ql (pv 2))))),?_⟩
 refine⟨(21:),λl hl=>?_⟩;have ae:∀H',Same H H'->(SqL K H' Y (bs.map V.str)\/SqT K H' Y (bs.map V.str)):=λH' g=>hb.elim (λz=>.inl (g.seq z)) λz=>.inr (g.seqT z);have g0:=Qe hl (.lst []);have ab:(U.map V.str).length=U.length:=List.length_map ..;have ac:(bs.map V.str).length=bs.length:=List.length_map ..;refine⟨_,rfl,lk,_,rfl,.inl (g0.seq hk),_,rfl,(by rw [ab];show-(2^62:Int)<=((U.length:Nat):Int);lia),(by rw [ab];show((U.length:Nat):Int)<2^62;lia),?_⟩;have an:∀(m:Nat),∀(σ:L2.St)(H':Hp),True:=λ_ _ _=>trivial;refine Zi (lo:=0) (n:=(((U.map V.str).length:Nat):Int).toNat) (λi σ H'=>∃(cs:Cs)(c3 Z:Option V),σ=[some (.ref lk),some (.ref Y),some (.ref l),c3,Z]/\Same H H'/\H' l=some (.lst (cs.map λt=>V.ref t.1))/\(∀t∈cs,SqT K H' t.1 [.int t.2.1,.int t.2.2])/\CsF U bs cs/\cs.length<=i*10)
  ⟨[],none,none,rfl,g0,Qb,λt ht=>(nomatch ht),λt ht=>(nomatch ht),by simp⟩ ?_ ?_
 .rintro i σ H' hi ⟨cs,c3,Z,rfl,g,J,L,M,aa⟩;rw [ab]at hi;have af:i<U.length:=by lia
  have e0:(0:Int)+(i:Int)=(i:Int):=by lia
  refine⟨_,rfl,Y,_,rfl,ae _ g,_,rfl,(by rw [ac];show-(2^62:Int)<=((bs.length:Nat):Int);lia),(by rw [ac];show((bs.length:Nat):Int)<2^62;lia),?_⟩;refine Zi (lo:=0) (n:=(((bs.map V.str).length:Nat):Int).toNat) (λj σ H'=>∃(cs:Cs)(Z:Option V),σ=[some (.ref lk),some (.ref Y),some (.ref l),some (.int (0+(i:Int))),Z]/\Same H H'/\H' l=some (.lst (cs.map λt=>V.ref t.1))/\(∀t∈cs,SqT K H' t.1 [.int t.2.1,.int t.2.2])/\CsF U bs cs/\cs.length<=i*10+j)
   ⟨cs,Z,rfl,g,J,L,M,by lia⟩ ?_ ?_
  .rintro j σ H2 hj ⟨cs,Z,rfl,g,J,L,M,aa⟩;rw [ac]at hj;have ag:j<bs.length:=by lia
   have e1:(0:Int)+(j:Int)=(j:Int):=by lia
   have ah:R3 K (.ref Y) (.int (0+(j:Int))) H2 (λv H3=>v=.str bs[j]/\H3=H2):=by
    have hv:atI (bs.map V.str) (0+(j:Int))=some (.str bs[j]):=by rw [e1];exact QB (by rw [List.getElem?_map,List.getElem?_eq_getElem ag];rfl)
    rcases ae _ g with z | z
    .exact .inl ⟨Y,_,_,_,rfl,rfl,z,hv,rfl,rfl⟩
    .exact .inr ⟨Y,_,_,_,rfl,rfl,z,hv,rfl,rfl⟩
   have ai:∀Q2:VK,Q2 (.str bs[j]) H2->R3 K (.ref Y) (.int (0+(j:Int))) H2 Q2:=λQ2 hq=>by
    rcases ah with⟨a,xs,i',v,e2,e3,e4,e5,e6,e7⟩ | ⟨a,xs,i',v,e2,e3,e4,e5,e6,e7⟩
    .exact .inl ⟨a,xs,i',v,e2,e3,e4,e5,by rw [e6];exact hq⟩
    .exact .inr ⟨a,xs,i',v,e2,e3,e4,e5,by rw [e6];exact hq⟩
   refine⟨_,rfl,_,rfl,lk,_,_,.str U[i],rfl,rfl,g.seq hk,(by rw [e0];exact QB (by rw [List.getElem?_map,List.getElem?_eq_getElem af];rfl)),_,rfl,_,rfl,ai _ ⟨rfl,_,rfl,UP (λhc=>?_) (λ_=>?_)⟩⟩
   .have aj:U[i]=bs[j]:=V.str.inj (of_decide_eq_true hc);refine⟨_,rfl,.inl ⟨rfl,_,SqL.of J⟩,_,rfl,_,rfl,(28:),λp hp=>?_⟩;have gp:=Qe hp (.tup [.int (0+(i:Int)),.int (0+(j:Int))]);have ad:=gp _ _ J;refine⟨l,_,_,rfl,rfl,ad,(by rw [List.length_map,Qz];lia),?_⟩;refine⟨cs++[(p,(i:Int),(j:Int))],_,rfl,λx u e=>by rw [Qh (Qi e hl)];exact gp _ _ (g _ _ e),by rw [Qb];simp,λt ht=>?_,λt ht=>?_,by simp;lia⟩
    .rcases List.mem_append.mp ht with z | z
     .exact(gp.seqT (L t z)).put ad
     .have:t=(p,(i:Int),(j:Int)):=by simpa using z
      rw [this,e0,e1]at*;exact SqT.put (SqT.of Qb) ad
    .rcases List.mem_append.mp ht with z | z
     .exact M t z
     .have:t=(p,(i:Int),(j:Int)):=by simpa using z
      rw [this];exact⟨i,j,U[i],rfl,List.getElem?_eq_getElem af,by rw [aj];exact List.getElem?_eq_getElem ag⟩
   .exact⟨cs,_,rfl,g,J,L,M,by lia⟩
  .rintro σ H2 ⟨cs,Z,rfl,g,J,L,M,aa⟩;rw [ac]at aa;exact⟨cs,_,_,rfl,g,J,L,M,by lia⟩
 .rintro σ H' ⟨cs,c3,Z,rfl,g,J,L,M,aa⟩;rw [ab]at aa;exact⟨_,rfl,q l H' cs g hl ⟨SqL.of J,L⟩ M (3:)⟩
end
end K70
namespace L2
open PySem PyProof.Rows TM TT ST K9 K11
structure TurnD(K:Fg)(H:Hp)(tu wd lm:Addr)(sv:V)(ks:List KdT)(st:Tm)(ms:List MdT):Prop where
 tu:SqT K H tu [.ref wd,sv,.ref lm]
 w:WoodAt K H wd ks
 s:TmV K H sv st
 m:ModesL K H lm ms
def JT(kn bs:List Str)(t:Tm):Prop:=∃cs:List (Int×Int),(∀c∈cs,∃(k j:Nat)(z:Str),c=((k:Int),(j:Int))/\kn[k]?=some z/\bs[j]?=some z)/\TDr cs t
structure ModeD(kn:List Str)(ks:List KdT)(m:MdT):Prop where
 ex:∃kd∈ks,kd.2.1=m.2.1/\m.2.2.2.2.length=kd.2.2.2.length/\∀(j:Nat)(r:PNx)(t:Tm),kd.2.2.2[j]?=some r->m.2.2.2.2[j]?=some t->JT kn r.2.2.2 t/\lv t<=3
structure DTurn(ks:List KdT)(st:Tm)(ms:List MdT):Prop where
 pos:0<ms.length
 four:ms.length<=4
 md:∀m∈ms,ModeD (ms.map λm=>m.2.1) ks m
 st:∀k,ks[0]?=some k->JT (ms.map λm=>m.2.1) [k.2.1] st/\lv st<=2
theorem TurnD.same{K:Fg}{H H':Hp}{tu wd lm:Addr}{sv:V}{ks:List KdT}{st:Tm}{ms:List MdT}(g:Same H H')(h:TurnD K H tu wd lm sv ks st ms):TurnD K H' tu wd lm sv ks st ms:=⟨g.seqT h.tu,h.w.same g,h.s.mono λ_ _=>g.seqT,h.m.same g⟩
def ZL(k:KdT):Str×List PNx:=(k.2.1,k.2.2.2)
def YM(r:PNx):PyData:=.tuple [.str r.2.1,.tuple (r.2.2.2.map .str)]
theorem Gc{K:Fg}{H:Hp}:∀{rs:List PNx},(∀t∈rs,RowAt K H t)->RdAll K H (rs.map λt=>V.ref t.1) (rs.map YM)
 | [],_=>.nil
 | t::r,h=>.cons (.tup (h t List.mem_cons_self).1 (.cons (.str _) (.cons (.tup (h t List.mem_cons_self).2 (YG _)) .nil))) (Gc λu G=>h u (19:))
theorem WV:∀{rs:List PNx},(∀r∈rs,PyData.strOk r.2.1=true)->(∀r∈rs,∀x∈r.2.2.2,PyData.strOk x=true)->PyData.canLayAll0 (rs.map YM)=true
 | [],_,_=>by simp [PyData.canLayAll0]
 | r::rs,h1,h2=>by
  simp only [List.map_cons,PyData.canLayAll0,YM,PyData.canLay0,h1 r List.mem_cons_self,Y2 _ (h2 r List.mem_cons_self),Bool.and_self,Bool.true_and];exact WV (λu G=>h1 u (19:)) λu G=>h2 u (19:)
def YD(p:Str×List PNx):PyData:=.tuple [.str p.1,.list (p.2.map YM)]
theorem Wj{K:Fg}{H:Hp}:∀{ks:List KdT},(∀k∈ks,SqT K H k.1 [.str k.2.1,.ref k.2.2.1]/\RowsL K H k.2.2.1 k.2.2.2)->RdAll K H (ks.map λk=>V.ref k.1) ((ks.map ZL).map YD)
 | [],_=>.nil
 | k::r,h=>.cons (.tup (h k List.mem_cons_self).1 (.cons (.str _) (.cons (.lst (h k List.mem_cons_self).2.1 (Gc (h k List.mem_cons_self).2.2)) .nil))) (Wj λu G=>h u (19:))
theorem JX:∀{ks:List KdT},(∀k∈ks,PyData.strOk k.2.1=true)->(∀k∈ks,RowsOk k.2.2.2)->PyData.canLayAll0 ((ks.map ZL).map YD)=true
 | [],_,_=>by simp [PyData.canLayAll0]
 | k::r,h1,h2=>by
  have J:PyData.canLayAll0 (k.2.2.2.map YM)=true:=WV (h2 k List.mem_cons_self).nm (h2 k List.mem_cons_self).kn;simp only [List.map_cons,PyData.canLayAll0,YD,ZL,PyData.canLay0,h1 k List.mem_cons_self,J,Bool.and_self,Bool.true_and];exact JX (λu G=>h1 u (19:)) λu G=>h2 u (19:)
theorem JC:∀rs:List PNx,PyData.depthAll (rs.map YM)<=2
 | []=>by simp [PyData.depthAll]
 | r::rs=>by
  have:=JC rs;simp only [List.map_cons,PyData.depthAll,YM,PyData.depth,YO];lia
theorem UE:∀ks:List (Str×List PNx),PyData.depthAll (ks.map YD)<=4
 | []=>by simp [PyData.depthAll]
 | k::r=>by
  have h1:=UE r;have h2:=JC k.2;simp only [List.map_cons,PyData.depthAll,YD,PyData.depth];lia
def Y9(m:Md):PyData:=.tuple [.str m.1,.list (UM m.2)]
theorem WI{K:Fg}{H:Hp}:∀{ms:List MdT},(∀m∈ms,MdAt K H m)->RdAll K H (ms.map λm=>V.ref m.1) ((ms.map MdT.md).map Y9)
 | [],_=>.nil
 | m::r,h=>.cons (.tup (h m List.mem_cons_self).1 (.cons (.str _) (.cons (.lst (h m List.mem_cons_self).2.1 (h m List.mem_cons_self).2.2.rd) .nil))) (WI λx G=>h x (19:))
theorem J0:∀{ms:List MdT},(∀m∈ms,PyData.strOk m.2.1=true/\∀t∈m.2.2.2.2,MOk 6 t)->PyData.canLayAll0 ((ms.map MdT.md).map Y9)=true/\PyData.depthAll ((ms.map MdT.md).map Y9)<=12
 | [],_=>by simp [PyData.canLayAll0,PyData.depthAll]
 | m::r,h=>by
  obtain⟨h1,h2⟩:=J0 λx L=>h x (List.mem_cons_of_mem _ L);obtain⟨M,U⟩:=h m List.mem_cons_self;obtain⟨Y,Z⟩:=XS (d:=6) m.2.2.2.2 U;have G:PyData.strOk m.md.1=true:=M;have J:PyData.canLayAll0 (UM m.md.2)=true:=Y;have aa:PyData.depthAll (UM m.md.2)<=6:=Z;constructor
  .simp only [List.map_cons,PyData.canLayAll0,Y9,PyData.canLay0,G,J,h1,Bool.and_self]
  .have e:((m::r).map MdT.md).map Y9=Y9 m.md::(r.map MdT.md).map Y9:=rfl;rw [e];have e2:PyData.depthAll (Y9 m.md::(r.map MdT.md).map Y9)=max (Y9 m.md).depth (PyData.depthAll ((r.map MdT.md).map Y9)):=by simp only [PyData.depthAll]
   have e3:(Y9 m.md).depth<=11:=by simp only [Y9,PyData.depth,PyData.depthAll];lia
   rw [e2];lia
abbrev Zf(ks:List KdT)(t:Tm)(ms:List MdT):PyData:=.tuple [.list ((ks.map ZL).map YD),tmd t,.list ((ms.map MdT.md).map Y9)]
theorem Gg{K:Fg}{H:Hp}{tu wd lm:Addr}{sv:V}{ks:List KdT}{st:Tm}{ms:List MdT}(h:TurnD K H tu wd lm sv ks st ms):RdV K H (.ref tu) (Zf ks st ms):=
 .tup h.tu (.cons (.lst h.w.1 (Wj h.w.2)) (.cons h.s.rd (.cons (.lst h.m.1 (WI h.m.2)) .nil)))
theorem Mg{ks:List KdT}{t:Tm}{ms:List MdT}(h1:∀k∈ks,PyData.strOk k.2.1=true)(h2:∀k∈ks,RowsOk k.2.2.2)(ht:MOk 6 t)(hm:∀m∈ms,PyData.strOk m.2.1=true/\∀t∈m.2.2.2.2,MOk 6 t):(Zf ks t ms).canLay0=true/\(Zf ks t ms).depth<=20:=by
 have G:=JX h1 h2;have a2:=UE (ks.map ZL);obtain⟨J,b2⟩:=ht;obtain⟨L,M⟩:=J0 hm;constructor
 .simp only [PyData.canLay0,PyData.canLayAll0,G,J,L,Bool.and_self]
 .simp only [PyData.depth,PyData.depthAll];lia
end L2
namespace K70
open PySem L2 TM TT ST K9 K11
abbrev LC:Stmt:=top 25
def Xz(K:Fg):Sp:=λvs H Q _=>∃(d:Addr)(c:Int)(wd:Addr)(ks:List KdT),vs=[.ref d,.int c,.ref wd]/\Dk H d/\WoodD K H d wd ks/\DWood c ks/\
 ∀(tu lm:Addr)(sv:V)(st:Tm)(ms:List MdT)(H':Hp),SameD d H H'->Dk H' d->TurnD K H' tu wd lm sv ks st ms->DTurn ks st ms->lm≠d->(∀m∈ms,m.2.2.1≠d)->Q (.ref tu) H'
theorem V6{kn bs:List Str}{cs:Cs}{t:Tm}(h:CsF kn bs cs)(ht:TDr cs.pr t):JT kn bs t:=⟨cs.pr,λc G=>by
 obtain⟨u,J,rfl⟩:=List.mem_map.mp G;exact h u J,ht⟩
section
variable{P:Program}{w:World}{K:Fg}{mg:Str->Option Value}{base:Heap}{f:Addr}{fd:FuncData}
theorem ZT:FnScope ["_law_deck","_law_code","_law_wood_here","_law_kinds","_law_k","_law_modes","_law_kind","_law_base","_law_rules","_law_name_here","_law_branches","_law_start"] ["_law_deck","_law_code","_law_wood_here"] (defScope LC):=(1:)
theorem OG(F:Fun K "_law_turning" "_law_turning" LC f fd)(G:Gm mg)(RD:Fn P w K mg base 1 "_law_draw" ["_law_deck","_law_most"] QZ)(RT:Fn P w K mg base 5 "_law_term" ["_law_deck","_law_code","_law_calls_here","_law_deep"] (Yj K 3))(RR:Fn P w K mg base 6 "_law_rule" ["_law_deck","_law_code","_law_base","_law_calls_here"] (Vo K))
 (RC:Fn P w K mg base 1 "_law_calls" ["_law_kinds","_law_branches"] (X8 K)) (RO:Fn P w K mg base 1 "_law_rows" ["_law_wood_here","_law_kind"] (Yc K)) (RB:Fn P w K mg base 3 "_law_bare" ["_law_term_here"] (Yu K 3)):FnOk P w K mg base CX0 7 f fd ["_law_deck","_law_code","_law_wood_here"] (Xz K):=by
 refine F.ok ZT (7:) (λc1 A outer s H vs Q E hr h=>?_)
 .obtain⟨d,c,wd,ks,rfl,_⟩:=h
  rfl
 obtain⟨d,c,wd,ks,rfl,hd,hW,ai,q⟩:=h;refine⟨_,(Qf (Qo (i:=3) ZT.nd rfl (9:) (QY (Qa (Qk Qj (Qk Qw (pv 2) Qd (2:)) Qd (2:)) Qc)))
  (Qf (QL PassesOwn.never rfl (QM rfl G.rng (Qa (Qp RD hr (49:)) Qc)) (Qt (i:=4) ZT.nd rfl (9:)) (Qg (Zw (Yp PySem.F.plainAttrs_list PySem.F.slot_list_append PySem.F.type_list_append QN (pv 3) (Qa (Qk Qj (Qk Qw (pv 2) (Qp RD hr (Qa (pv 0) (Qa (Qn Qm rfl G.len PySem.boot_len (Qa (pv 2) Qc)) Qc))) (2:)) Qd (2:)) Qc)))))
  (Qf (Qo (i:=5) ZT.nd rfl (9:) (QY Qc))
  (Qf (QL PassesOwn.never rfl (QG (pv 3)) (Qt (i:=6) ZT.nd rfl (9:)) (Qf (Qo (i:=7) ZT.nd rfl (9:) (Qp RT hr (Qa (pv 0) (Qa (pv 1) (Qa (QY Qc) (Qa (Qd) Qc))))))
  (Qf (Qo (i:=8) ZT.nd rfl (9:) (QY Qc))
  (Qf (QL PassesOwn.never rfl (QG (Qp RO hr (Qa (pv 2) (Qa (pv 6) Qc)))) (Zs rfl (Qy (Qt (i:=9) ZT.nd rfl (9:)) (Qy (Qt (i:=10) ZT.nd rfl (9:)) Zg))) (Qg (Zw (Yp PySem.F.plainAttrs_list PySem.F.slot_list_append PySem.F.type_list_append QN (pv 8) (Qa (Qp RR hr (Qa (pv 0) (Qa (pv 1) (Qa (pv 7) (Qa (Qp RC hr (Qa (pv 3) (Qa (pv 10) Qc))) Qc))))) Qc)))))
  (Qg (Zw (Yp PySem.F.plainAttrs_list PySem.F.slot_list_append PySem.F.type_list_append QN (pv 5) (Qa ((QD (Qa (pv 6) (Qa (pv 8) Qc)))) Qc))))))))
  (Qf (Qo (i:=11) ZT.nd rfl (9:) (Qp RT hr (Qa (pv 0) (Qa (pv 1) (Qa (Qp RC hr (Qa (pv 3) (Qa ((QY (Qa (Qk Qj (Qk Qw (pv 2) Qd (2:)) Qd (2:)) Qc))) Qc))) (Qa (Qd) Qc))))))
  (Qg (Ql (QD (Qa (pv 2) (Qa (Qp RB hr (Qa (pv 11) Qc)) (Qa (pv 5) Qc))))))))))),?_⟩
 have bf:=ai.pos;have c2:=ai.three;obtain⟨U,a3⟩: ∃U,ks[0]?=some U:=⟨_,List.getElem?_eq_getElem bf⟩;have ap:=List.mem_of_getElem? a3;have w0:∀H',SameD d H H'->WoodD K H' d wd ks:=λH' g=>hW.sameD g hd;have bg:atI (ks.map λk=>V.ref k.1) 0=some (.ref U.1):=QB (j:=0) (by rw [List.getElem?_map,a3];rfl);refine⟨_,rfl,wd,_,_,.ref U.1,rfl,rfl,hW.1.1,bg,U.1,_,0,_,rfl,rfl,(hW.1.2 U ap).1,rfl,(by show 1<=sizeLine;decide),λlk a4=>?_⟩;have L:=hd.ne a4;refine⟨_,rfl,d,_,rfl,hd.upd L,(12:),λr0 H1 g1 b8 c3 c5=>⟨_,rfl,(by show-(2^62:Int)<=r0;lia),(by show r0<2^62;lia),?_⟩⟩;refine Zi (lo:=0) (n:=r0.toNat) (λi σ H'=>∃(J:List Str)(c4:Option V),σ=[some (.ref d),some (.int c),some (.ref wd),some (.ref lk),c4,none,none,none,none,none,none,none]/\SameD d H H'/\Dk H' d/\H' lk=some (.lst (J.map V.str))/\J.length=i+1/\∀z∈J,∃M∈ks,M.2.1=z)
  ⟨[U.2.1],none,rfl,(SameD.new a4).trans g1,b8,g1 _ _ L Qb,rfl,λz hz=>⟨U,ap,(List.mem_singleton.mp hz).symm⟩⟩ ?_ ?_
 .rintro i σ H' hi ⟨J,c4,rfl,g,bh,a5,bi,a6⟩;have hw:=w0 H' g;refine⟨_,rfl,.inl ⟨rfl,_,SqL.of a5⟩,_,rfl,_,rfl,_,rfl,wd,_,rfl,.inl hw.1.1,d,_,rfl,bh,(by rw [List.length_map];show(0:Int)<((ks.length:Nat):Int);lia),λr H2 g2 av b9 ca=>?_⟩;rw [List.length_map]at ca;obtain⟨x,hx⟩: ∃x,ks[r.toNat]?=some x:=(26:);have bj:=List.mem_of_getElem? hx;have bn:=hw.sameD g2 bh;have Z:=g2 _ _ L a5;refine⟨wd,_,_,.ref x.1,rfl,rfl,bn.1.1,UT b9 (by rw [List.getElem?_map,hx];rfl),x.1,_,0,_,rfl,rfl,(bn.1.2 x bj).1,rfl,lk,_,_,rfl,rfl,Z,(by rw [List.length_map,Qz];lia),?_⟩;refine⟨J++[x.2.1],_,rfl,(g.trans g2).put a4,av.upd L,by rw [Qb];simp,by simp [bi],λz hz=>?_⟩;rcases List.mem_append.mp hz with y | y
  .exact a6 z y
  .have:z=x.2.1:=by simpa using y
   rw [this];exact⟨x,bj,rfl⟩
 rintro σ H2 ⟨J,c4,rfl,g2,av,Z,bi,a6⟩;have cx:J.length<=4:=by lia
 refine⟨(21:),λlm aw=>?_⟩;have aa:=av.ne aw;refine⟨_,rfl,lk,rfl,⟨_,(Qe aw _).seq (SqL.of Z)⟩,?_⟩;refine Zn (K:=K) (xs:=J.map V.str) (λi σ H'=>∃(ms:List MdT)(c6 c7 c8 c9 Y:Option V),σ=[some (.ref d),some (.int c),some (.ref wd),some (.ref lk),c4,some (.ref lm),c6,c7,c8,c9,Y,none]/\SameD d H2 H'/\Dk H' d/\H' lm=some (.lst (ms.map λm=>V.ref m.1))/\ms.map (λm=>m.2.1)=J.take i/\
  ∀m∈ms,SqT K H' m.1 [.str m.2.1,.ref m.2.2.1]/\H' m.2.2.1=some (.lst m.2.2.2.1)/\TmAll K H' m.2.2.2.1 m.2.2.2.2/\m.2.2.1≠d/\m.2.2.1≠lm/\ModeD J ks m)
  ⟨[],none,none,none,none,none,rfl,SameD.new aw,av.upd aa,Qb,rfl,λm hm=>(nomatch hm)⟩ ?_ ?_ ?_
 .rintro i σ H' _ ⟨ms,c6,c7,c8,c9,Y,_,g,_⟩;exact SqL.of (g _ _ L Z)
 .rintro i x σ H3 hx ⟨ms,c6,c7,c8,c9,Y,rfl,g3,hd3,ag,ab,aj⟩;have a7:i<J.length:=by
   have:=(List.getElem?_eq_some_iff.mp hx).1
   simpa using this
  obtain rfl:x=.str J[i]:=by
   rw [List.getElem?_map,List.getElem?_eq_getElem a7]at hx;exact(Option.some.inj hx).symm
  obtain⟨M,ae,bo⟩:=a6 _ (List.getElem_mem a7);have da:ms.length<=4:=by
   have:=congrArg List.length ab;rw [List.length_map,List.length_take]at this;lia
  refine⟨_,rfl,_,rfl,(21:),λl0 bp=>?_⟩;have a0:=Qe bp (.lst []);have bx:=hd3.same a0;refine⟨d,c,l0,[],2,rfl,bx,⟨SqL.of Qb,λt ht=>(nomatch ht)⟩,hd3.ne bp,by decide,λbv H4 bt g4 ak cb cc ce=>?_⟩;have al:SameD d H3 H4:=(SameD.of a0).trans g4;have bz:TDr [] bt:=cc;refine⟨(21:),λlr ax=>?_⟩;have aq:=ak.ne ax;have a1:=Qe ax (.lst []);have b1:=ak.same a1;have bq:=w0 _ (g2.trans (g3.trans (al.trans (SameD.of a1))));refine⟨_,rfl,_,rfl,wd,ks,M,by rw [bo];rfl,bq.1,ai.ok.nd,by lia,ae,λH5 g5=>⟨M.2.2.1,rfl,⟨_,g5.seq (bq.1.2 M ae).2.1⟩,?_⟩⟩;have br:∀H',SameD d H4 H'->RowsL K H' M.2.2.1 M.2.2.2:=λH' g=>((w0 _ (g2.trans (g3.trans (al.trans g)))).1.2 M ae).2;have db:=ai.few M ae;refine Zn (K:=K) (xs:=M.2.2.2.map λt=>V.ref t.1) (λj σ H'=>∃(us:List V)(ts:List Tm)(c9 Y:Option V),σ=[some (.ref d),some (.int c),some (.ref wd),some (.ref lk),c4,some (.ref lm),some (.str J[i]),some bv,some (.ref lr),c9,Y,none]/\SameD d H4 H'/\Dk H' d/\H' lr=some (.lst us)/\TmAll K H' us ts/\ts.length=j/\
   ∀(m:Nat)(r:PNx)(t:Tm),M.2.2.2[m]?=some r->ts[m]?=some t->JT J r.2.2.2 t/\lv t<=3)
   ⟨[],[],c9,Y,rfl,(SameD.of a1).trans (SameD.of g5),b1.same g5,g5 _ _ Qb,.nil,rfl,λm r t _ ht=>by simp at ht⟩ ?_ ?_ ?_
  .rintro j σ H' _ ⟨us,ts,_,_,_,g,_⟩;exact(br H' g).1
  .rintro j x σ H6 hx ⟨us,ts,c9,Y,rfl,g6,am,ah,ay,an,ar⟩;have az:j<M.2.2.2.length:=by
    have:=(List.getElem?_eq_some_iff.mp hx).1
    simpa using this
   obtain rfl:x=.ref M.2.2.2[j].1:=by
    rw [List.getElem?_map,List.getElem?_eq_getElem az]at hx;exact(Option.some.inj hx).symm
   have a8:=(br H6 g6).2 _ (List.getElem_mem az);have cy:=ay.length;have cz:=((ai.ok.rows M ae).kl _ (List.getElem_mem az));refine⟨M.2.2.2[j].1,_,rfl,a8.1,rfl,_,_,rfl,_,_,rfl,rfl,?_⟩;have b3:H6 lk=some (.lst (J.map V.str)):=g6 _ _ L (al _ _ L (g3 _ _ L Z));refine⟨_,rfl,.inl ⟨rfl,_,SqL.of ah⟩,_,rfl,_,rfl,_,rfl,_,rfl,_,rfl,lk,M.2.2.2[j].2.2.1,J,M.2.2.2[j].2.2.2,rfl,SqL.of b3,.inr a8.2,by lia,by lia,λlc H7 cs g7 as a9 ba cf=>?_⟩;have cg:=am.same g7;refine⟨d,c,lc,cs,bv,bt,rfl,cg,a9,am.ne as,cb.mono λ_ _ h=>g7.seqT (g6.seqT ak h),bz,ce,λv' H8 t' g8 ch ci cj ck=>?_⟩;have bb:SameD d H6 H8:=(SameD.of g7).trans g8;have au:=bb _ _ aq ah;refine⟨lr,us,_,rfl,rfl,au,(by rw [Qz];lia),?_⟩;refine⟨us++[v'],ts++[t'],_,_,rfl,(g6.trans bb).put ax,ch.upd aq,Qb,?_,by simp [an],λm r t bu ac=>?_⟩
   .exact TmAll.append (ay.mono λ_ _ h=>(bb.seqT am h).put au) (.cons (ci.mono λ_ _ h=>h.put au) .nil)
   .by_cases hm:m<ts.length
    .rw [List.getElem?_append_left hm]at ac;exact ar m r t bu ac
    .have b4:m<(ts++[t']).length:=(List.getElem?_eq_some_iff.mp ac).1;rw [List.length_append,List.length_singleton]at b4;have cm:m=j:=by lia
     subst cm;rw [List.getElem?_append_right (3:),an,Nat.sub_self]at ac;have et:t'=t:=by simpa using ac
     have er:M.2.2.2[m]=r:=Option.some.inj ((List.getElem?_eq_getElem az).symm.trans bu);rw [<-et,<-er];exact⟨V6 ba cj,ck⟩
  .rintro σ H6 ⟨us,ts,c9,Y,rfl,g6,am,ah,ay,an,ar⟩;rw [List.length_map]at an;have ao:=al.trans g6;have bc:H6 lm=some (.lst (ms.map λm=>V.ref m.1)):=ao _ _ aa ag;have bd:lr≠lm:=λz=>by
    have:=al _ _ aa ag;rw [<-z,ax]at this;cases this
   refine⟨_,rfl,.inl ⟨rfl,_,SqL.of bc⟩,_,rfl,_,rfl,(28:),λp hp=>?_⟩;have gp:=Qe hp (.tup [.str J[i],.ref lr]);have ad:=gp _ _ bc;refine⟨lm,_,_,rfl,rfl,ad,(by rw [List.length_map,Qz];lia),?_⟩;refine⟨ms++[(p,J[i],lr,us,ts)],_,_,_,_,_,rfl,((g3.trans ao).trans (SameD.of gp)).put aw,(am.same gp).upd aa,by rw [Qb];simp,?_,λm hm=>?_⟩
   .rw [List.map_append,ab,List.take_add_one,List.getElem?_eq_getElem a7];rfl
   .rcases List.mem_append.mp hm with z | z
    .obtain⟨m1,m2,m3,m4,m5,m6⟩:=aj m z;refine⟨(gp.seqT (ao.seqT hd3 m1)).put ad,by rw [Qh m5];exact gp _ _ (ao _ _ m4 m2),m3.mono λ_ _ h=>(gp.seqT (ao.seqT hd3 h)).put ad,m4,m5,m6⟩
    .have:m=(p,J[i],lr,us,ts):=by simpa using z
     rw [this];refine⟨SqT.put (SqT.of Qb) ad,by rw [Qh bd];exact gp _ _ ah,ay.mono λ_ _ h=>(gp.seqT h).put ad,aq,bd,⟨M,ae,bo,an,ar⟩⟩
 .rintro σ H3 ⟨ms,c6,c7,c8,c9,Y,rfl,g3,hd3,ag,ab,aj⟩;rw [List.length_map,List.take_length]at ab;have bw:=w0 _ (g2.trans g3);have b5:H3 lk=some (.lst (J.map V.str)):=g3 _ _ L Z;have cw:ms.length=J.length:=by have:=congrArg List.length ab;simpa using this
  refine⟨_,rfl,_,rfl,_,rfl,_,rfl,wd,_,_,.ref U.1,rfl,rfl,bw.1.1,bg,U.1,_,0,_,rfl,rfl,(bw.1.2 U ap).1,rfl,(by show 1<=sizeLine;decide),λlb cn=>?_⟩;have b0:=Qe cn (.lst [.str U.2.1]);refine⟨lk,lb,J,[U.2.1],rfl,b0.seq (SqL.of b5),.inl (SqL.of Qb),by lia,by simp,λlc H4 cs g4 as a9 ba cf=>?_⟩;have ak:=(hd3.same b0).same g4;refine⟨d,c,lc,cs,1,rfl,ak,a9,(hd3.same b0).ne as,by decide,λsv H5 st g5 co cp cq cr=>?_⟩;have ct:SameD d H3 H5:=(SameD.of (b0.trans g4)).trans g5;refine⟨_,rfl,_,rfl,sv,st,cs.pr,rfl,cp,cq,by lia,λbe H6 cu g6 b6 b7 c0=>⟨_,rfl,(by show 3<=sizeLine;decide),λtu cv=>?_⟩⟩;have gt:=Qe cv (.tup [.ref wd,be,.ref lm]);have af:SameD d H3 (upd H6 tu (.tup [.ref wd,be,.ref lm])):=ct.trans (SameD.of (g6.trans gt));have dc:lv st<=2:=cr;refine q tu lm be cu ms _ (g2.trans (g3.trans af)) (co.same (g6.trans gt)) ⟨SqT.of Qb,(w0 _ (g2.trans (g3.trans af))).1,b6.mono λ_ _=>gt.seqT,⟨SqL.of (af _ _ aa ag),λm hm=>?_⟩⟩ ⟨by lia,by lia,λm hm=>by rw [ab];exact(aj m hm).2.2.2.2.2,λk hk=>?_⟩ aa λm hm=>(aj m hm).2.2.2.1
  .obtain⟨m1,m2,m3,m4,m5,m6⟩:=aj m hm;exact⟨af.seqT hd3 m1,SqL.of (af _ _ m4 m2),m3.mono λ_ _=>af.seqT hd3⟩
  .obtain rfl:U=k:=Option.some.inj (a3.symm.trans hk);rw [ab];exact⟨V6 ba b7,by lia⟩
end
end K70
namespace K70
open PySem L2 TM TT ST K9 K11
abbrev Nw:Stmt:=top 27
def XB(K:Fg):Sp:=λvs H Q _=>∃(tu wd lm:Addr)(sv:V)(ks:List KdT)(st:Tm)(ms:List MdT),vs=[.ref tu]/\TurnD K H tu wd lm sv ks st ms/\WoodOk ks/\ms.length<=10/\
 ∀(tu' wd' lm':Addr)(hs:List KdT)(ms':List MdT)(H':Hp),Same H H'->TurnD K H' tu' wd' lm' sv hs st ms'->hs.map ZL=ks.map ZL->ms'.map MdT.md=ms.map MdT.md->Q (.ref tu') H'
abbrev XA(K:Fg):List V->Hp->VK->Prop:=λxs H Q=>∃p ys,xs=[.ref p]/\(SqL K H p ys\/SqT K H p ys)/\∀l,H l=none->Q (.ref l) (upd H l (.lst ys))
section
variable{P:Program}{w:World}{K:Fg}{mg:Str->Option Value}{base:Heap}{f:Addr}{fd:FuncData}
theorem Nx:FnScope ["_law_turning_here","_law_wood_here"] ["_law_turning_here"] (defScope Nw):=(1:)
theorem NR(F:Fun K "_law_copy" "_law_copy" Nw f fd)(G:Gm mg):FnOk P w K mg base CX0 1 f fd ["_law_turning_here"] (XB K):=by
 refine F.ok Nx (7:) (λau A outer s H vs Q E hr h=>?_)
 .obtain⟨tu,wd,lm,sv,ks,st,ms,rfl,_⟩:=h
  rfl
 obtain⟨tu,wd,lm,sv,ks,st,ms,rfl,hT,hO,as,q⟩:=h;refine⟨_,(Qf (ZO (i:=1) (CompG.many (xs:=["_law_kind","_law_rows_here"]) (caps:=[]) (cap:=[]) (cs:=[]) rfl rfl (0:) (0:) (0:) (0:) (0:) (0:) rfl rfl rfl) rfl (QG (25:)) (UK (CompG.many (xs:=["_law_kind","_law_rows_here"]) (caps:=[]) (cap:=[]) (cs:=[]) rfl rfl (0:) (0:) (0:) (0:) (0:) (0:) rfl rfl rfl) rfl) (λ_ _ _ _=>QX) (λ_ _ _ _=>(QD (Qa (pv 0) (Qa (QR (r:=XA K) Z9 rfl G.lst PyProof.Rows.boot_list (Qa (pv 1) Qc)) Qc)))) Nx.nd rfl rfl)
  (Qg (Ql (QD (Qa (pv 1) (Qa (25:) (Qa (QK (CompG.many (xs:=["_law_kind","_law_rules"]) (caps:=[]) (cap:=[]) (cs:=[]) rfl rfl (0:) (0:) (0:) (0:) (0:) (0:) rfl rfl rfl) rfl (QG (25:)) (UK (CompG.many (xs:=["_law_kind","_law_rules"]) (caps:=[]) (cap:=[]) (cs:=[]) rfl rfl (0:) (0:) (0:) (0:) (0:) (0:) rfl rfl rfl) rfl) (λ_ _ _ _=>QX) (λ_ _ _ _=>(QD (Qa (pv 0) (Qa (QR (r:=XA K) Z9 rfl G.lst PyProof.Rows.boot_list (Qa (pv 1) Qc)) Qc))))) Qc))))))),?_⟩
 refine⟨_,rfl,tu,_,0,_,rfl,rfl,hT.tu,rfl,wd,rfl,⟨_,hT.w.1⟩,λlx al=>?_⟩;refine Y4 (K:=K) (xs:=ks.map λk=>V.ref k.1) (cs:=[]) (tt:=λ_ H Q=>Q true H) (te:=P6 (Zm (Zo 0) (Zm (tCB (XA K) (Zm (Zo 1) UQ)) UQ))) (λj ys H'=>∃M:List KdT,ys=M.map (λk=>V.ref k.1)/\M.map ZL=(ks.take j).map ZL/\(∀k∈M,SqT K H' k.1 [.str k.2.1,.ref k.2.2.1]/\(H' k.2.2.1=some (.lst (k.2.2.2.map λt=>V.ref t.1))/\k.2.2.1≠lx)/\∀t∈k.2.2.2,RowAt K H' t)/\H' lx=some (.lst ys)/\Same H H')
  ⟨[],rfl,rfl,λk hk=>(nomatch hk),Qb,Qe al _⟩ ?_ ?_ ?_
 .rintro j ys H' _ ⟨M,_,_,_,_,g⟩;exact(hT.w.same g).1
 .rintro j x ys H' hj hx ⟨M,rfl,U,ad,af,g⟩;have Y:j<ks.length:=by simpa using hj
  obtain rfl:x=.ref ks[j].1:=by
   rw [List.getElem?_map,List.getElem?_eq_getElem Y]at hx;exact(Option.some.inj hx).symm
  obtain⟨ah,ai⟩:=(hT.w.same g).2 _ (List.getElem_mem Y);have ao:M.length=j:=by
   have:=congrArg List.length U;rw [List.length_map,List.length_map,List.length_take]at this;lia
  have av:=hO.len;refine⟨ks[j].1,_,_,rfl,ah,QU ⟨_,rfl,_,rfl,ks[j].2.2.1,_,rfl,.inl ai.1,λl2 Z=>⟨(28:),λp2 aj=>?_⟩⟩⟩;have e1:=Qe Z (.lst (ks[j].2.2.2.map λt=>V.ref t.1));have e2:=Qe aj (.tup [.str ks[j].2.1,.ref l2]);have J:=e1.trans e2;have L:=J _ _ af;have aa:l2≠lx:=λz=>by rw [z,af]at Z;cases Z
  refine Qv (ys:=M.map λk=>V.ref k.1) hj L (29:) ⟨M++[(p2,ks[j].2.1,l2,ks[j].2.2.2)],by simp,?_,λk hk=>?_,Qb,λx u e=>by rw [Qh (Qi e al)];exact J _ _ (g _ _ e)⟩
  .rw [List.map_append,U,List.take_add_one,List.getElem?_eq_getElem Y,List.map_append]
   rfl
  .rcases List.mem_append.mp hk with z | z
   .obtain⟨a1,⟨a2,a3⟩,a4⟩:=ad k z;exact⟨(J.seqT a1).put L,⟨by rw [Qh a3];exact J _ _ a2,a3⟩,λt ht=>⟨(J.seqT (a4 t ht).1).put L,(J.seqT (a4 t ht).2).put L⟩⟩
   .have:k=(p2,ks[j].2.1,l2,ks[j].2.2.2):=by simpa using z
    rw [this];refine⟨SqT.put (SqT.of Qb) L,⟨by rw [Qh aa];exact e2 _ _ Qb,aa⟩,λt ht=>⟨(J.seqT (ai.2 t ht).1).put L,(J.seqT (ai.2 t ht).2).put L⟩⟩
 rintro ys H1 ⟨M,rfl,U,ad,af,g1⟩;rw [List.length_map,List.take_length]at U;have ap:WoodAt K H1 lx M:=⟨SqL.of af,λk hk=>by
  obtain⟨a1,⟨a2,_⟩,a4⟩:=ad k hk;exact⟨a1,SqL.of a2,a4⟩⟩
 have ac:=hT.same g1;refine⟨_,rfl,_,rfl,tu,_,1,_,rfl,rfl,ac.tu,rfl,_,rfl,tu,_,2,_,rfl,rfl,ac.tu,rfl,lm,rfl,⟨_,ac.m.1⟩,λly am=>?_⟩;refine Y4 (K:=K) (xs:=ms.map λk=>V.ref k.1) (cs:=[]) (tt:=λ_ H Q=>Q true H) (te:=P6 (Zm (Zo 0) (Zm (tCB (XA K) (Zm (Zo 1) UQ)) UQ))) (λj ys H'=>∃ns:List MdT,ys=ns.map (λk=>V.ref k.1)/\ns.map MdT.md=(ms.take j).map MdT.md/\(∀m∈ns,SqT K H' m.1 [.str m.2.1,.ref m.2.2.1]/\(H' m.2.2.1=some (.lst m.2.2.2.1)/\m.2.2.1≠ly)/\TmAll K H' m.2.2.2.1 m.2.2.2.2)/\H' ly=some (.lst ys)/\Same H1 H')
  ⟨[],rfl,rfl,λk hk=>(nomatch hk),Qb,Qe am _⟩ ?_ ?_ ?_
 .rintro j ys H' _ ⟨M,_,_,_,_,g⟩;exact(ac.m.same g).1
 .rintro j x ys H' hj hx ⟨ns,rfl,ae,ad,ag,g⟩;have Y:j<ms.length:=by simpa using hj
  obtain rfl:x=.ref ms[j].1:=by
   rw [List.getElem?_map,List.getElem?_eq_getElem Y]at hx;exact(Option.some.inj hx).symm
  obtain⟨ah,aq,ar⟩:=(ac.m.same g).2 _ (List.getElem_mem Y);have ao:ns.length=j:=by
   have:=congrArg List.length ae;rw [List.length_map,List.length_map,List.length_take]at this;lia
  refine⟨ms[j].1,_,_,rfl,ah,QU ⟨_,rfl,_,rfl,ms[j].2.2.1,_,rfl,.inl aq,λl2 Z=>⟨(28:),λp2 aj=>?_⟩⟩⟩;have e1:=Qe Z (.lst ms[j].2.2.2.1);have e2:=Qe aj (.tup [.str ms[j].2.1,.ref l2]);have J:=e1.trans e2;have ab:=J _ _ ag;have aa:l2≠ly:=λz=>by rw [z,ag]at Z;cases Z
  refine Qv (ys:=ns.map λk=>V.ref k.1) hj ab (29:) ⟨ns++[(p2,ms[j].2.1,l2,ms[j].2.2.2.1,ms[j].2.2.2.2)],by simp,?_,λk hk=>?_,Qb,λx u e=>by rw [Qh (Qi e am)];exact J _ _ (g _ _ e)⟩
  .rw [List.map_append,ae,List.take_add_one,List.getElem?_eq_getElem Y,List.map_append]
   rfl
  .rcases List.mem_append.mp hk with z | z
   .obtain⟨a1,⟨a2,a3⟩,a4⟩:=ad k z;exact⟨(J.seqT a1).put ab,⟨by rw [Qh a3];exact J _ _ a2,a3⟩,a4.mono λ_ _ h=>(J.seqT h).put ab⟩
   .have:k=(p2,ms[j].2.1,l2,ms[j].2.2.2.1,ms[j].2.2.2.2):=by simpa using z
    rw [this];exact⟨SqT.put (SqT.of Qb) ab,⟨by rw [Qh aa];exact e2 _ _ Qb,aa⟩,ar.mono λ_ _ h=>(J.seqT h).put ab⟩
 rintro ys H2 ⟨ns,rfl,ae,an,ag,g2⟩;rw [List.length_map,List.take_length]at ae;refine⟨(by show 3<=sizeLine;decide),λp hp=>?_⟩;have k3:=Qe hp (.tup [.ref lx,sv,.ref ly]);have ak:=g2.trans k3;exact q p lx ly M ns _ (g1.trans ak) ⟨SqT.of Qb,ap.same ak,ac.s.mono λ_ _=>ak.seqT,⟨SqL.of (k3 _ _ ag),λm hm=>by
  obtain⟨a1,⟨a2,_⟩,a4⟩:=an m hm;exact⟨k3.seqT a1,SqL.of (k3 _ _ a2),a4.mono λ_ _=>k3.seqT⟩⟩⟩ U ae
end
end K70
namespace ST
open PySem TM TT
mutual
noncomputable def rsT(S:Int->Stp):Tm->Stp
 | .node (.call m _) _ _=>S m
 | .node (.put n k a) _ bs=>if k=true then .op else .put n a (Sw S bs)
noncomputable def Sw(S:Int->Stp):List Tm->List Stp
 | []=>[]
 | b::r=>rsT S b::Sw S r
end
def Ry:List Stp->Stp
 | []=>.op
 | x::r=>r.foldl met x
abbrev Rls:=List (List (Bool×Tm))
def RI(S:List Stp):Int->Stp:=λm=>(S[m.toNat]?).getD .op
def Sv(rs:List (Bool×Tm)):Stp:=Ry ((rs.filter λr=>r.1).map λr=>rsT (λ_=>.op) r.2)
def Rx(S:List Stp)(rs:List (Bool×Tm)):Stp:=Ry (rs.map λr=>rsT (RI S) r.2)
def D(ms:Rls):Nat->List Stp
 | 0=>ms.map Sv
 | n+1=>ms.map (Rx (D ms n))
end ST
namespace ST
open PySem TM TT L2 K9
mutual
noncomputable def OfK(rw:Str->List PNx):Tree Str->Str->Prop
 | .node n _ bs,k=>∃r∈rw k,r.2.1=n/\OfKs rw bs r.2.2.2
noncomputable def OfKs(rw:Str->List PNx):List (40:)->List Str->Prop
 | [],ks=>ks=[]
 | b::r,ks=>∃k ks',ks=k::ks'/\OfK rw b k/\OfKs rw r ks'
end
theorem OfKs.get{rw:Str->List PNx}:∀{bs:List (40:)}{ks:List Str}{j:Nat}{k:Str},OfKs rw bs ks->ks[j]?=some k->∃b,bs[j]?=some b/\OfK rw b k
 | [],ks,j,k,h,e=>by simp only [OfKs]at h;rw [h]at e;cases e
 | b::r,ks,j,k,h,e=>by
  simp only [OfKs]at h;obtain⟨G,U,rfl,h1,h2⟩:=h;cases j with
  | zero=>
   obtain rfl:G=k:=by simpa using e
   exact⟨b,rfl,h1⟩
  | succ j=>
   obtain⟨J,L,M⟩:=OfKs.get (j:=j) (k:=k) h2 (by simpa using e);exact⟨J,by simpa using L,M⟩
theorem OfKs.snoc{rw:Str->List PNx}{b:Tree Str}{k:Str}(hb:OfK rw b k):∀{bs:List (40:)}{ks:List Str},OfKs rw bs ks->OfKs rw (bs++[b]) (ks++[k])
 | [],ks,h=>by
  simp only [OfKs]at h;subst h;show OfKs rw [b] [k];simp only [OfKs];exact⟨k,[],rfl,hb,rfl⟩
 | a::r,ks,h=>by
  simp only [OfKs]at h;obtain⟨G,J,rfl,h1,h2⟩:=h;show OfKs rw (a::(r++[b])) (G::(J++[k]));simp only [OfKs];exact⟨G,_,rfl,h1,OfKs.snoc hb h2⟩
end ST
namespace K70
open PySem L2 TM TT ST K9 K11
abbrev sRO:Stmt:=top 29
abbrev Xd:Stmt:=top 30
abbrev sMB:Stmt:=top 31
theorem ZZ{ks:List KdT}{kd:KdT}(hn:(ks.map λk=>k.2.1).Nodup)(hk:kd∈ks):QF ks kd.2.1=kd.2.2.2:=by
 unfold QF;rw [J4 hn hk]
 rfl
def Ws(K:Fg):Sp:=λvs H Q _=>∃(tu wd lm:Addr)(sv:V)(ks:List KdT)(st:Tm)(ms:List MdT)(m:Nat)(md:MdT)(kd:KdT)(j:Nat)(r:PNx)(t:Tm),vs=[.ref tu,.int (m:Int),.str r.2.1]/\TurnD K H tu wd lm sv ks st ms/\WoodOk ks/\ms[m]?=some md/\kd∈ks/\kd.2.1=md.2.1/\md.2.2.2.2.length=kd.2.2.2.length/\kd.2.2.2[j]?=some r/\md.2.2.2.2[j]?=some t/\
 ∀(v:V)(H':Hp),Same H H'->TmV K H' v t->Q v H'
theorem Ut{rs:List PNx}(h:(rs.map λt=>t.2.1).Nodup){i j:Nat}{a b:PNx}(ha:rs[i]?=some a)(hb:rs[j]?=some b)(e:a.2.1=b.2.1):i=j:=by
 obtain⟨hi,G⟩:=List.getElem?_eq_some_iff.mp ha;obtain⟨J,L⟩:=List.getElem?_eq_some_iff.mp hb;have nd:=List.pairwise_iff_getElem.mp (List.nodup_iff_pairwise_ne.mp h);rcases Nat.lt_trichotomy i j with z | z | z
 .exact absurd (by rw [List.getElem_map,List.getElem_map,G,L];exact e) (nd i j (by rw [List.length_map];exact hi) (by rw [List.length_map];exact J) z)
 .exact z
 .exact absurd (by rw [List.getElem_map,List.getElem_map,G,L];exact e.symm) (nd j i (by rw [List.length_map];exact J) (by rw [List.length_map];exact hi) z)
section
variable{P:Program}{w:World}{K:Fg}{mg:Str->Option Value}{base:Heap}{f:Addr}{fd:FuncData}
theorem Pi:FnScope ["_law_turning_here","_law_mode","_law_name_here","_law_kind","_law_rules"] ["_law_turning_here","_law_mode","_law_name_here"] (defScope sRO):=(1:)
theorem P5(F:Fun K "_law_rule_of" "_law_rule_of" sRO f fd)(G:Gm mg)(RO:Fn P w K mg base 1 "_law_rows" ["_law_wood_here","_law_kind"] (Yc K)):FnOk P w K mg base CX0 2 f fd ["_law_turning_here","_law_mode","_law_name_here"] (Ws K):=by
 refine F.ok Pi (7:) (λaq A outer s H vs Q E hr h=>?_)
 .obtain⟨tu,wd,lm,sv,ks,st,ms,m,md,J,j,r,t,rfl,_⟩:=h
  rfl
 obtain⟨tu,wd,lm,sv,ks,st,ms,m,md,J,j,r,t,rfl,U,wo,hm,L,ai,ao,Z,aj,q⟩:=h;refine⟨_,(Qf (Ja (Qk Qw (25:) (pv 1) (2:)) (Zs rfl (Qy (Qt (i:=3) Pi.nd rfl (9:)) (Qy (Qt (i:=4) Pi.nd rfl (9:)) Zg))))
  (Qg (Ql (Qk Qw (QK (CompG.many (xs:=["_law_row","_law_rule_here"]) (caps:=["_law_name_here"]) (cap:=[2]) (cs:=[_]) rfl rfl (0:) (0:) (0:) (0:) (0:) (0:) rfl rfl rfl) rfl (XR rfl G.zip (Qa (Qp RO hr (Qa (25:) (Qa (pv 3) Qc))) (Qa (pv 4) Qc))) (UK (CompG.many (xs:=["_law_row","_law_rule_here"]) (caps:=["_law_name_here"]) (cap:=[2]) (cs:=[_]) rfl rfl (0:) (0:) (0:) (0:) (0:) (0:) rfl rfl rfl) rfl) (λ_ _ _ _=>Ur (Qr Za (Qk (r:=JL K) Qj (pv 0) Qd (2:)) (pv 2) (Qu _))) (λ_ _ _ _=>pv 1)) Qd (2:))))),?_⟩
 have ak:=List.mem_of_getElem? hm;obtain⟨m1,m2,m3⟩:=U.m.2 md ak;have ar:=m3.length;have ap:=(wo.rows J L).len;obtain⟨uj,al,am⟩:=m3.get aj;have as:j<J.2.2.2.length:=(List.getElem?_eq_some_iff.mp Z).1;refine⟨_,rfl,tu,_,2,_,rfl,rfl,U.tu,rfl,_,rfl,lm,_,_,.ref md.1,rfl,rfl,U.m.1,QB (j:=m) (by rw [List.getElem?_map,hm];rfl),md.1,_,rfl,m1,rfl,_,_,rfl,_,_,rfl,rfl,?_⟩;refine⟨_,rfl,tu,_,0,_,rfl,rfl,U.tu,rfl,_,rfl,wd,ks,J,by rw [ai];rfl,U.w,wo.nd,wo.len,L,λH1 Y=>⟨_,rfl,J.2.2.1,md.2.2.1,_,md.2.2.2.1,rfl,Y.seq (U.w.2 J L).2.1,Y.seq m2,λacc ab=>?_⟩⟩;have hz:(J.2.2.2.map λt=>V.ref t.1).length=md.2.2.2.1.length:=by rw [List.length_map];lia
 have ac:=(U.w.2 J L).2;refine Pr (K:=K) (xs:=J.2.2.2.map λt=>V.ref t.1) (zs:=md.2.2.2.1) (cs:=[some (.str r.2.1)]) (te:=Zo 1) hz (λi ys H'=>H' acc=some (.lst ys)/\Same H1 H'/\ys=if i<=j then []else [uj])
  ⟨Qb,Qe ab _,by rw [if_pos (Nat.zero_le _)]⟩ ?_ ?_ ?_
 .rintro i ys H' _ ⟨_,g,_⟩;exact⟨g.seq (Y.seq ac.1),g.seq (Y.seq m2)⟩
 .rintro i u v p ys H' hi hu hv hp ⟨ad,g,M⟩;have aa:i<J.2.2.2.length:=by simpa using hi
  obtain rfl:u=.ref J.2.2.2[i].1:=by
   rw [List.getElem?_map,List.getElem?_eq_getElem aa]at hu;exact(Option.some.inj hu).symm
  have gp:=Qe hp (.tup [.ref J.2.2.2[i].1,v]);have ae:=g.trans gp;have an:=ac.2 _ (List.getElem_mem aa);refine⟨_,rfl,_,_,0,_,rfl,rfl,(Y.trans ae).seqT an.1,rfl,_,rfl,rfl,_,rfl,?_⟩;have af:=gp _ _ ad
  by_cases hc:J.2.2.2[i].2.1=r.2.1
  .have ag:=Ut (wo.rows J L).nd (List.getElem?_eq_getElem aa) Z hc;obtain rfl:uj=v:=by rw [ag]at hv;exact Option.some.inj (al.symm.trans hv)
   have ah:ys=[]:=by rw [M,if_pos (3:)]
   have e:decide (V.str J.2.2.2[i].2.1=V.str r.2.1)=true:=decide_eq_true (by rw [hc]);rw [e];refine QU ⟨_,rfl,Qv (ys:=ys) hi af (by rw [ah];decide) ⟨Qb,λb u e=>?_,by rw [ah,if_neg (3:)];rfl⟩⟩;rw [Qh (Qi e ab)];exact ae _ _ e
  .have ag:i≠j:=λz=>hc (by
    subst z;rw [List.getElem?_eq_getElem aa]at Z;rw [Option.some.inj Z])
   have e:decide (V.str J.2.2.2[i].2.1=V.str r.2.1)=false:=decide_eq_false λz=>hc (V.str.inj z);rw [e];refine Zc (ZI hi (ys:=ys) ⟨af,ae,?_⟩);rw [M]
   by_cases h2:i<j
   .rw [if_pos (3:),if_pos (3:)]
   .rw [if_neg (3:),if_neg (3:)]
 rintro ys H2 ⟨ad,g2,M⟩;rw [List.length_map,if_neg (3:)]at M;subst M;exact⟨acc,_,0,uj,rfl,rfl,SqL.of ad,QB (j:=0) rfl,q uj H2 (Y.trans g2) (am.mono λ_ _=>(Y.trans g2).seqT)⟩
end
end K70
namespace K70
open PySem L2 TM TT ST K9 K11
abbrev J7:Stmt:=top 32
def ZV(K:Fg)(n:Nat):Sp:=λvs H Q _=>∃(d wd:Addr)(c:Int)(ks:List KdT)(kd:KdT)(dp:Nat),vs=[.ref d,.ref wd,.str kd.2.1,.int (dp:Int)]/\Dk H d/\WoodD K H d wd ks/\DWood c ks/\kd∈ks/\1<=dp/\dp<=n/\
 ∀(v:V)(H':Hp)(T:Tree Str),SameD d H H'->Dk H' d->TrV K H' v T->OfK (QF ks) T kd.2.1->lv T<=dp->Q v H'
theorem Mj(p:List Str):PyData.eqv (.tuple (p.map PyData.str)) (.tuple [])=p.isEmpty:=by
 cases p<;>simp [PyData.eqv,PyData.eqvAll]
theorem YG{K:Fg}{H:Hp}:∀p:List Str,RdAll K H (p.map V.str) (p.map PyData.str)
 | []=>.nil
 | x::r=>.cons (.str x) (YG r)
section
variable{P:Program}{w:World}{K:Fg}{mg:Str->Option Value}{base:Heap}{f:Addr}{fd:FuncData}
theorem Ux:FnScope ["_law_deck","_law_wood_here","_law_kind","_law_deep","_law_rows_here","_law_name_here","_law_branches","_law_mark_here"] ["_law_deck","_law_wood_here","_law_kind","_law_deep"] (defScope J7):=(1:)
theorem Oz{n:Nat}(F:Fun K "_law_tree" "_law_tree" J7 f fd)(G:Gm mg)(RD:Fn P w K mg base 1 "_law_draw" ["_law_deck","_law_most"] QZ)(RM:Fn P w K mg base 2 "_law_mark" ["_law_deck"] Yq)(RO:Fn P w K mg base 1 "_law_rows" ["_law_wood_here","_law_kind"] (Yc K))
 (R:Fn P w K mg base (n+2) "_law_tree" ["_law_deck","_law_wood_here","_law_kind","_law_deep"] (ZV K n)):FnOk P w K mg base CX0 (n+3) f fd ["_law_deck","_law_wood_here","_law_kind","_law_deep"] (ZV K (n+1)):=by
 refine F.ok Ux (7:) (λa8 A outer s H vs Q E Y h=>?_)
 .obtain⟨d,wd,c,ks,J,dp,rfl,_⟩:=h
  rfl
 obtain⟨d,wd,c,ks,J,dp,rfl,hd,hw,hW,M,bq,br,q⟩:=h;refine⟨_,(Qf (Qo (i:=4) Ux.nd rfl (9:) (Qp RO Y (Qa (pv 1) (Qa (pv 2) Qc)) (3:)))
  (Qf (Uk (QC (Qr Za (pv 3) Qd (Qu _)) (Qg (ZO (i:=4) (CompG.many (xs:=["_law_row"]) (caps:=[]) (cap:=[]) (cs:=[]) rfl rfl (0:) (0:) (0:) (0:) (0:) (0:) rfl rfl rfl) rfl (QG (pv 4)) (Z0 (CompG.many (xs:=["_law_row"]) (caps:=[]) (cap:=[]) (cs:=[]) rfl rfl (0:) (0:) (0:) (0:) (0:) (0:) rfl rfl rfl)) (λ_ _ _ _=>Ur (Qr (r:=Pe K (A.deeper (PyProof.Rows.envOfC "_law_tree" (defScope J7) s.heap.objs.size f a8)) false) Jf (Qk (r:=JL K) Qj (pv 0) Qd (2:)) (QD Qc) (Qu _))) (λ_ _ _ _=>pv 0) Ux.nd rfl rfl)) Qq))
  (Qf (Ja (Qk Qw (pv 4) (Qp RD Y (Qa (pv 0) (Qa (Qn Qm rfl G.len PySem.boot_len (Qa (pv 4) Qc)) Qc)) (3:)) (2:)) (Zs rfl (Qy (Qt (i:=5) Ux.nd rfl (9:)) (Qy (Qt (i:=6) Ux.nd rfl (9:)) Zg))))
  (Qf (Qo (i:=7) Ux.nd rfl (9:) (Qp RM Y (Qa (pv 0) Qc) (Nat.le_add_left 2 n)))
  (Qg (Ql (QD (Qa (pv 5) (Qa (pv 7) (Qa (QR QW rfl G.tup PyProof.Rows.boot_tuple (Qa (QK (CompG.many (xs:=["_law_branch"]) (caps:=["_law_deck","_law_deep","_law_wood_here"]) (cap:=[0,3,1]) (cs:=[_,_,_]) rfl rfl (0:) (0:) (0:) (0:) (0:) (0:) rfl rfl rfl) rfl (Yl (pv 6)) (Z0 (CompG.many (xs:=["_law_branch"]) (caps:=["_law_deck","_law_deep","_law_wood_here"]) (cap:=[0,3,1]) (cs:=[_,_,_]) rfl rfl (0:) (0:) (0:) (0:) (0:) (0:) rfl rfl rfl)) (λ_ _ _ _=>QX) (λ_ _ _ _=>Qp R Y (Qa (pv 1) (Qa (pv 3) (Qa (pv 0) (Qa (Qs YW (pv 2) Qd) Qc)))) (5:))) Qc)) Qc)))))))))),?_⟩
 have a9:=(hw.1.2 J M).2;have av:=hW.few J M;refine⟨_,rfl,_,rfl,wd,ks,J,rfl,hw.1,hW.ok.nd,hW.ok.len,M,λH1 g1=>?_⟩;have bn:=hd.same g1;have Z:=a9.same g1;refine⟨λba H'=>∃(lr:Addr)(rs:List PNx),ba=[some (.ref d),some (.ref wd),some (.str J.2.1),some (.int (dp:Int)),some (.ref lr),none,none,none]/\Same H H'/\RowsL K H' lr rs/\lr≠d/\rs≠[]/\rs.length<=3/\(∀r∈rs,r∈J.2.2.2)/\(dp=1->∀r∈rs,r.2.2.2=[]),?_,?_⟩
 .obtain⟨r0,ah,bb⟩:=hW.bare J M;refine⟨_,rfl,rfl,_,rfl,UP (λhc=>?_) (λhc=>?_)⟩
  .refine⟨_,rfl,J.2.2.1,rfl,⟨_,Z.1⟩,λacc L=>?_⟩;refine YB (K:=K) (xs:=J.2.2.2.map λt=>V.ref t.1) (cs:=[]) (te:=Zo 0) (λi ys H'=>ys=((J.2.2.2.take i).filter λr=>r.2.2.2.isEmpty).map (λr=>V.ref r.1)/\H' acc=some (.lst ys)/\Same H1 H')
    ⟨rfl,Qb,Qe L _⟩ ?_ ?_ ?_
   .rintro i ys H' _ ⟨_,_,g⟩;exact(Z.same g).1
   .rintro i x ys H' hi hx ⟨rfl,U,g⟩;have aa:i<J.2.2.2.length:=by simpa using hi
    obtain rfl:x=.ref J.2.2.2[i].1:=by
     rw [List.getElem?_map,List.getElem?_eq_getElem aa]at hx;exact(Option.some.inj hx).symm
    have ab:=(Z.same g).2 _ (List.getElem_mem aa);have bc:=(hW.ok.rows J M).kn _ (List.getElem_mem aa);refine⟨_,rfl,_,_,1,_,rfl,rfl,ab.1,rfl,(21:),λp hp=>?_⟩;have gp:=Qe hp (.tup []);have cl:(PyData.tuple (J.2.2.2[i].2.2.2.map PyData.str)).canLay0=true:=by
     simp only [PyData.canLay0];exact Y2 _ bc
    refine⟨.tuple (J.2.2.2[i].2.2.2.map PyData.str),.tuple [],.tup (gp.seqT ab.2) (YG _),.tup (SqT.of Qb) .nil,cl,by decide,Y.fit (Nat.le_trans (Nat.min_le_right _ _) (by simp [PyData.depth,PyData.depthAll])),_,rfl,?_⟩;rw [if_neg Bool.false_ne_true,Mj];have ai:=gp _ _ U;have a1:(((J.2.2.2.take i).filter λr=>r.2.2.2.isEmpty).map (λr=>V.ref r.1)).length<5000:=by
     rw [List.length_map];exact Nat.lt_of_le_of_lt (List.length_filter_le _ _) (by rw [List.length_take];lia)
    refine G1 (λhb=>?_) (λhb=>?_)
    .refine⟨_,rfl,Qv hi ai a1 ⟨?_,Qb,λx u e=>by rw [Qh (Qi e L)];exact gp _ _ (g _ _ e)⟩⟩;rw [List.take_add_one,List.getElem?_eq_getElem aa,List.filter_append,List.map_append];simp [hb]
    .refine ZI hi (ys:=((J.2.2.2.take i).filter λr=>r.2.2.2.isEmpty).map (λr=>V.ref r.1)) ⟨?_,ai,g.trans gp⟩;rw [List.take_add_one,List.getElem?_eq_getElem aa,List.filter_append];simp [hb]
   rintro ys H2 ⟨rfl,U,g2⟩;rw [List.length_map,List.take_length]at U;have as:H acc=none:=g1.free L;refine⟨acc,J.2.2.2.filter λr=>r.2.2.2.isEmpty,rfl,g1.trans g2,⟨SqL.of U,λt ht=>(Z.same g2).2 t (List.mem_filter.mp ht).1⟩,hd.ne as,λz=>?_,Nat.le_trans (List.length_filter_le _ _) av,λr Y=>(List.mem_filter.mp Y).1,λ_ r Y=>List.isEmpty_iff.mp (List.mem_filter.mp Y).2⟩;have:r0∈J.2.2.2.filter λr=>r.2.2.2.isEmpty:=List.mem_filter.mpr ⟨ah,by rw [bb];rfl⟩;rw [z]at this;cases this
  .refine⟨J.2.2.1,J.2.2.2,rfl,g1,Z,hw.2.2 J M,λz=>(by rw [z]at ah;cases ah),av,λr Y=>Y,λz=>?_⟩;exact absurd (decide_eq_true (by rw [z];rfl)) hc
 rintro ba H2 ⟨lr,rs,rfl,g2,aj,bd,be,bo,a3,au⟩;have ak:=hd.same g2;have bp:0<rs.length:=List.length_pos_iff.mpr be;refine⟨_,rfl,_,rfl,_,rfl,lr,_,rfl,.inl aj.1,d,_,rfl,ak,(by rw [List.length_map];show(0:Int)<((rs.length:Nat):Int);lia),λx H3 g3 hd3 x0 x1=>?_⟩;rw [List.length_map]at x1;obtain⟨r,aw⟩: ∃r,rs[x.toNat]?=some r:=(26:);have al:=List.mem_of_getElem? aw;have ab:=aj.2 r al;refine⟨lr,_,_,.ref r.1,rfl,rfl,g3.seqL bd aj.1,UT x0 (by rw [List.getElem?_map,aw];rfl),r.1,_,rfl,g3.seqT ak ab.1,rfl,_,_,rfl,_,_,rfl,rfl,?_⟩;refine⟨_,rfl,d,rfl,hd3,λmk H4 g4 ag=>?_⟩;have ax:=g3.trans g4;have ay:SameD d H H4:=(SameD.of g2).trans ax;have az:SqT K H4 r.2.2.1 (r.2.2.2.map V.str):=ax.seqT ak ab.2;have bf:WoodD K H4 d wd ks:=hw.sameD ay hd;have am:=a3 r al;have bt:=(hW.ok.rows J M).kl r am;refine⟨_,rfl,_,rfl,_,rfl,r.2.2.1,rfl,⟨_,az⟩,λacc L=>?_⟩;have an:=ag.ne L;refine Yn (K:=K) (xs:=r.2.2.2.map V.str) (cs:=[some (.ref d),some (.int (dp:Int)),some (.ref wd)]) (tt:=λ_ H Q=>Q true H) (te:=J9 (ZV K n) [] E0 (Zm (Zo 1) (Zm (Zo 3) (Zm (Zo 0) (Zm (tOp (rI0 λi j=>.int (i-j)) (Zo 2) (tC (.int 1))) UQ))))) (λi ys H'=>∃us:List (40:),H' acc=some (.lst ys)/\SameD d H4 H'/\Dk H' d/\TrAll K H' ys us/\us.length=i/\(∀u∈us,lv u<=dp-1)/\OfKs (QF ks) us (r.2.2.2.take i))
  ⟨[],Qb,SameD.new L,ag.upd an,.nil,rfl,λu hu=>(nomatch hu),by simp only [OfKs];rfl⟩ ?_ ?_ ?_
 .rintro i ys H' _ ⟨us,_,g,_⟩;exact g.seqT ag az
 .rintro i x ys H' hi hx ⟨us,U,g,a0,ac,ao,ap,ad⟩;have ae:i<r.2.2.2.length:=by simpa using hi
  have a4:=ac.length;obtain rfl:x=.str r.2.2.2[i]:=by
   rw [List.getElem?_map,List.getElem?_eq_getElem ae]at hx;exact(Option.some.inj hx).symm
  have bu:dp≠1:=λz=>by
   have:=au z r al;rw [this]at ae;exact absurd ae (Nat.not_lt_zero _)
  obtain⟨bg,a5,ek⟩:=List.mem_map.mp (hW.kin J M r am _ (List.getElem_mem ae));refine QU ⟨_,rfl,_,rfl,_,rfl,_,rfl,_,_,rfl,rfl,d,wd,c,ks,bg,dp-1,?_,a0,bf.sameD g ag,hW,a5,by lia,by lia,λv5 H5 T5 g5 aq bh a6 a7=>?_⟩
  .have e1:((dp-1:Nat):Int)=(dp:Int)-1:=by lia
   rw [ek,e1];rfl
  have af:=g5 _ _ an U;refine Qv (ys:=ys) hi af (3:) ⟨us++[T5],Qb,(g.trans g5).put L,aq.upd an,?_,by simp [ao],λu hu=>?_,?_⟩
  .exact TrAll.append (ac.mono λ_ _ h=>(g5.seqT a0 h).put af) (.cons (bh.mono λ_ _ h=>h.put af) .nil)
  .rcases List.mem_append.mp hu with z | z
   .exact ap u z
   .obtain rfl:u=T5:=by simpa using z
    exact a7
  .rw [List.take_add_one,List.getElem?_eq_getElem ae];exact OfKs.snoc (by rw [<-ek];exact a6) ad
 rintro ys H5 ⟨us,U,g5,aq,ac,ao,ap,ad⟩;rw [List.length_map]at ao ad;rw [List.take_length]at ad;have a4:=ac.length;refine⟨acc,ys,rfl,.inl ⟨SqL.of U,λpt bi=>⟨(by show 3<=sizeLine;decide),λpp bj=>?_⟩⟩⟩;have ga:=Qe bi (.tup ys);have gb:=Qe bj (.tup [.str r.2.1,.int mk,.ref pt]);have ar:=ga.trans gb;refine q (.ref pp) _ (.node r.2.1 mk us) (ay.trans (g5.trans (SameD.of ar))) (aq.same ar) (.mk (SqT.of Qb) (gb.seqT (SqT.of Qb)) (ac.mono λ_ _=>ar.seqT) (3:)) ?_ ?_
 .simp only [OfK];exact⟨r,by rw [ZZ hW.ok.nd M];exact am,rfl,ad⟩
 .simp only [lv];have:=U3 ap;lia
theorem G0{k:Nat}:FnOk P w K mg base CX0 k f fd ["_law_deck","_law_wood_here","_law_kind","_law_deep"] (ZV K 0):=by
 have G:∀vs H Q E,¬ZV K 0 vs H Q E:=λvs H Q E h=>by
  obtain⟨d,wd,c,ks,L,M,_,_,_,_,_,h1,U,_⟩:=h;lia
 exact⟨λvs H Q E h=>absurd h (G vs H Q E),λA outer s H J Y vs Q E _ _ _ _ h=>absurd h (G vs H Q E)⟩
theorem Wo(F:Fun K "_law_tree" "_law_tree" J7 f fd)(G:Gm mg)(RD:Fn P w K mg base 1 "_law_draw" ["_law_deck","_law_most"] QZ)(RM:Fn P w K mg base 2 "_law_mark" ["_law_deck"] Yq)(RO:Fn P w K mg base 1 "_law_rows" ["_law_wood_here","_law_kind"] (Yc K))
 (hb:Binds K fd ["_law_deck","_law_wood_here","_law_kind","_law_deep"] []) (hm:mg "_law_tree"=some (.ref f)):∀n:Nat,FnOk P w K mg base CX0 (n+2) f fd ["_law_deck","_law_wood_here","_law_kind","_law_deep"] (ZV K n)
 | 0=>G0
 | n+1=>Oz F G RD RM RO ⟨f,fd,Wo F G RD RM RO hb hm n,hb,F.kp,hm⟩
end
end K70
namespace K24
open PySem L2 TM TT K9 K11
def nmT:Tree Str->Str
 | .node n _ _=>n
def Sh(ks:List KdT)(ms:List Md)(t:Tm)(r:Tree Str):Option (Tm×Tree Str):=
 match lab t with
 | .put _ _ _=>none
 | .call m b=>match r.bs[b.toNat]? with
  | none=>none
  | some c=>match ms[m.toNat]? with
   | none=>none
   | some md=>match Xj ks md (nmT c)with
    | none=>none
    | some u=>some (u,c)
def OX(ks:List KdT)(ms:List Md):Nat->Tm×Tree Str->Tm×Tree Str
 | 0,p=>p
 | n+1,p=>match Sh ks ms p.1 p.2 with
  | none=>p
  | some q=>OX ks ms n q
def TN(ks:List KdT)(ms:List Md)(p:Tm×Tree Str):Tm×Tree Str:=OX ks ms 60 p
structure Tu where
 ks:List KdT
 k0:Str
 start:Tm
 ms:List Md
def St(T:Tu)(p:Tm×Tree Str):Prop:=∃kinds,Tc (mks T.ms) kinds p.1=true/\kinds.length=p.2.bs.length/\Rb (Vv T.ks) p.2.bs kinds=true
def upT(t:Tree Str):Tree Str:=.node (S []) 0 [t]
end K24
namespace L2
open PySem PySem.Spec PyProof.Rows PySem.W
theorem Gj:∀{vs:List Value}{fs:List Int},vs.length=fs.length->(∀(j:Nat)(v:Value),vs[j]?=some v->∃n t,fs[j]?=some n/\v=Value.int n t)->IntsAre vs fs
 | [],[],_,_=>.nil
 | [],_::_,h,_=>by cases h
 | _::_,[],h,_=>by cases h
 | v::vs,f::fs,h,k=>by
  obtain⟨n,t,e,rfl⟩:=k 0 v rfl;obtain rfl:f=n:=by simpa using e
  exact .cons f t (Gj (by simpa using h) λj v G=>k (j+1) v G)
theorem Ud:∀{vs:List Value}{fs:List Int},IntsAre vs fs->Vals (fs.map V.int) vs
 | _,_,.nil=>.nil
 | _,_,.cons n t h=>.cons ⟨t,rfl⟩ (Ud h)
section
variable{prog:Program}{w:World}{A:Around}{E:Value->Shared->Prop}{s:Shared}
theorem Wl{d:Addr}{kvs:List (Key×Value)}{Q:Value->Shared->Prop}(hh:A.handled=none)(lo:(d==sysModules)=false)(hd:s.heap.DictOf (Qx prog w) d kvs)(h64:kvs.length<64)
 (h:∀(h1:Heap)(tk:Nat)(vs:List Value),(∀b o,s.heap.get? b=some o->h1.get? b=some o)->vs.length=kvs.length->(∀(j:Nat)(v:Value),vs[j]?=some v->∃k x,kvs[j]?=some (k,x)/\(Qx prog w).is k v=true)->
  (h1.push (seqObj "list" vs.toArray 0)).get? h1.objs.size=some (seqObj "list" vs.toArray 0)->
  wpAny (15:) A.in1.in1 (Builtin.«list.sort» ⟨[.ref h1.objs.size],[]⟩) (λfin s'=>∃v,fin=.done (.ret v)/\Q (.ref h1.objs.size) s') E { s with heap:=h1.push (seqObj "list" vs.toArray 0),toks:=tk }):
 wpAny (15:) A (call (.builtin "sorted") [.ref d]) Q E s:=by
 obtain⟨Y,L⟩:=hd.dictAt;refine Calls.call_function_entry kind_sorted plain_sorted entry_sorted (args_sorted1 _) ?_;unfold Builtin.«sorted»;refine wpAny_bind (m:=checkCount "sorted" 1 1 _) (wpAny_pure ?_);refine wpAny_bind (kdu_collect (A:=A.in1) (kdl_dict (knd:=Qx prog w) (kvs:=kvs) (ep:=Y) lo) hh L (by rw [sizeLine_eq];lia) λh1 tk acc M G=>?_);have U:acc.toList.length=kvs.length:=by rw [Array.length_toList];exact G.1
 refine wpAny_bind (wpAny_newList ?_ (by rw [U,sizeLine_eq];lia));have J:(h1.push (seqObj "list" acc.toList.toArray 0)).get? h1.objs.size=some (seqObj "list" acc.toList.toArray 0):=Heap.get?_push_size _ rfl;refine wpAny_bind (wpAny_holding (wpAny_call_entry slot_list_sort ⟨_,J,rfl⟩ entry_list_sort (wpAny_mono (h h1 tk acc.toList M U (λj v e=>G.2 j v (by rw [<-Array.getElem?_toList];exact e)) J) (λfin s' Z=>?_) λ_ _ e=>e) (args_list_sort _)));obtain⟨v,rfl,q⟩:=Z;exact⟨_,rfl,wpAny_pure ⟨_,rfl,q⟩⟩
end
section
variable{X:Cx}
theorem YJ(hc:X.calm=true):QV X (.builtin "sorted") (λxs H Q=>∃(d:Addr)(kvs:List (Key×V))(fs:List Int),xs=[.ref d]/\H d=some (.dK kvs)/\kvs.map (·.1)=fs.map Sum.inl/\fs.length<64/\
 ∀(out:List Int) p,out.Perm fs->out.Pairwise (·<=·)->H p=none->Q (.ref p) (upd H p (.lst (out.map V.int)))):=by
 intro pins s σ H xs us Q I r h;obtain⟨d,kvs,fs,rfl,hd,hk,af,q⟩:=h;cases r with
 | cons r rr=>
  cases rr;obtain rfl:_=Value.ref d:=r;obtain⟨z,lo,vs,J,hD⟩:=Mh I.hok hd;have ae:kvs.length=fs.length:=by have:=congrArg List.length hk;simpa using this
  have ag:=J.length;refine Wl (I.ok.hd hc) lo hD (3:) λh1 tk ks aa hl ab L=>?_;have hI:IntsAre ks fs:=by
   refine Gj (3:) λj v hv=>?_;obtain⟨k,x,e,ac⟩:=ab j v hv;have G:(vs.map (·.1))[j]?=some k:=by rw [List.getElem?_map,e];rfl
   rw [KV.keys' J,hk,List.getElem?_map]at G;cases ef:fs[j]? with
   | none=>rw [ef]at G;cases G
   | some n=>
    rw [ef]at G;have e3:(Sum.inl n:Key)=k:=Option.some.inj G;subst e3;have Y:Jy (Sum.inl n) v=true:=ac;rcases QI Y with⟨i,t,Z,e5⟩ | ⟨y,t,Z,_⟩
    .cases Z;exact⟨n,t,rfl,e5⟩
    .cases Z
  have I1:Inv X pins σ H { s with heap:=h1,toks:=tk }:=I.kept aa;refine list_sort_tree L hI (3:) λout M a1 a2 a3=>⟨_,rfl,?_⟩;have ad:H h1.objs.size=none:=I1.hok.fresh (5:);obtain⟨e,he⟩:=sortedHeap_at (vs:=ks) (out:=out) L;refine⟨.ref h1.objs.size,_,I1.laid (t':=tk) (o:=.lst (M.map V.int)) (λb o g=>?_) (5:) ?_,rfl,q M _ a2 a3 ad⟩
  .have U:b<h1.objs.size:=Heap.lt_size g;exact(sortedHeap_old (Nat.ne_of_lt U) (by rw [size_push'];exact Nat.lt_succ_of_lt U)).trans (Heap.get?_push_of_some _ g)
  .exact⟨by rw [List.length_map,a2.length_eq,sizeLine_eq];lia,out.toList,e,Ud a1,by rw [Array.toArray_toList];exact he⟩
end
end L2
namespace L2
open PySem PySem.Spec PyProof.Rows
section
variable{prog:Program}{w:World}{A:Around}{E:Value->Shared->Prop}{s:Shared}
theorem Lr{zp ti tu j1 j2 t1 t2:Addr}{n1 n2:Nat}{us vs:Array Value}{p q c d:Value}{Q:Value->Shared->Prop}(Ap:ZipApart zp ti tu j1 j2 t1 t2)
 (gz:IsZip s.heap zp ti tu .none) (gi:IsPair s.heap ti (.ref j1) (.ref j2)) (gu:IsPair s.heap tu c d)
 (w1:s.heap.IsTupleIter j1 t1 n1) (w2:s.heap.IsListIter j2 t2 n2) (l1:s.heap.IsTuple t1 us) (l2:s.heap.IsList t2 vs) (ep:us[n1]?=some p) (eq:vs[n2]?=some q)
 (k:∀h',IsZip h' zp ti tu (rawInt s.heap.objs.size)->IsPair h' tu p q->h'.IsTupleIter j1 t1 (n1+1)->h'.IsListIter j2 t2 (n2+1)->IsPair h' s.heap.objs.size p q->
  (10:)->Q (33:) { s with heap:=h' }):
 wpAny (15:) A (Builtin.«zip.__next__» ⟨[.ref zp],[]⟩) (λfin s'=>∃v,fin=.done (.ret v)/\Q v s') E s:=by
 show wpAny _ _ (field (.ref zp) 2>>=_) _ _ _;refine wpAny_bind (wpAny_field gz rfl (x:=.bool false) rfl ?_);show wpAny _ _ (field (.ref zp) 3>>=_) _ _ _;refine wpAny_bind (wpAny_field gz rfl (x:=.ref ti) rfl ?_);refine wpAny_bind (wpAny_seqItems gi rfl ?_);show wpAny _ _ (Builtin.SmallTypes.ownedTupleIsFree (.ref zp)>>=_) _ _ _;refine wpAny_bind ?_;(unfold Builtin.SmallTypes.ownedTupleIsFree);refine wpAny_bind (wpAny_field gz rfl (x:=.none) rfl (wpAny_pure ?_));simp only [if_true];refine wpAny_bind (wpAny_rule (wpAny_bind (wpAny_field gz rfl (x:=.ref tu) rfl ?_)));refine wpAny_bind (wpAny_setField_rec gz (22:) λha aa J=>?_)
 replace aa:IsZip ha zp ti tu .ellipsis:=aa
 refine wpAny_bind ?_;simp only [List.forIn_cons,List.forIn_nil,List.zipIdx_cons,List.zipIdx_nil];refine wpAny_bind (wpAny_bind (wpAny_onRaise ?_));show wpAny _ _ (Builtin.SmallTypes.nextOf (.ref j1)>>=_) _ _ _;refine wpAny_bind (Yb (w1.extBut J.extBut Ap.i1z) (l1.extBut J.extBut Ap.l1z) ep λhb ai sb=>wpAny_pure ?_);have af:IsPair hb tu c d:=sb.extBut _ _ Ap.TOi1 (J.extBut _ _ Ap.TOz gu);refine wpAny_bind (wpAny_seqItems af rfl (wpAny_bind (wpAny_updateSeq_pair af λhc ab sc=>?_)))
 replace ab:IsPair hc tu p d:=ab
 refine wpAny_bind (wpAny_letGo (wpAny_pure (wpAny_bind (wpAny_bind (wpAny_onRaise ?_)))));show wpAny _ _ (Builtin.SmallTypes.nextOf (.ref j2)>>=_) _ _ _;refine wpAny_bind (wpAny_nextOf_list_item (((w2.extBut J.extBut Ap.i2z).extBut sb.extBut Ap.i12.symm).extBut sc.extBut Ap.TOi2.symm) (((l2.extBut J.extBut Ap.l2z).extBut sb.extBut Ap.l2i1).extBut sc.extBut Ap.l2TO) eq λhd aj sd=>wpAny_pure ?_);have ag:IsPair hd tu p d:=sd.extBut _ _ Ap.TOi2 ab;refine wpAny_bind (wpAny_seqItems ag rfl (wpAny_bind (wpAny_updateSeq_pair ag λG M se=>?_)))
 replace M:IsPair G tu p q:=M
 refine wpAny_bind (wpAny_letGo (wpAny_pure (wpAny_pure (wpAny_bind (wpAny_seqItems M rfl (wpAny_bind (wpAny_newTuple ?_)))))));have U:G.objs.size=s.heap.objs.size:=by rw [se.1,sd.1,sc.1,sb.1,J.1]
 have ah:IsZip G zp ti tu .ellipsis:=se.extBut _ _ Ap.TOz.symm (sd.extBut _ _ Ap.i2z.symm (sc.extBut _ _ Ap.TOz.symm (sb.extBut _ _ Ap.i1z.symm aa)));have ae:∀b o,b≠zp->b≠tu->b≠j1->b≠j2->s.heap.get? b=some o->G.get? b=some o:=λb o L b2 b3 b4 e=>se.extBut _ _ b2 (sd.extBut _ _ b4 (sc.extBut _ _ b2 (sb.extBut _ _ b3 (J.extBut _ _ L e))));have ak:G.IsTupleIter j1 t1 (n1+1):=((ai.extBut sc.extBut Ap.TOi1.symm).extBut sd.extBut Ap.i12).extBut se.extBut Ap.TOi1.symm;have al:G.IsListIter j2 t2 (n2+1):=aj.extBut se.extBut Ap.TOi2.symm;have lz:zp<G.objs.size:=Heap.lt_size ah;show wpAny _ _ (Builtin.SmallTypes.ownedTupleHandOut (.ref zp) (.ref G.objs.size)>>=_) _ _ _;refine wpAny_bind ?_;(unfold Builtin.SmallTypes.ownedTupleHandOut);have am:IsZip (G.push { cls:=.type "tuple",data:=.seq #[p,q] }) zp ti tu .ellipsis:=Heap.get?_push_of_some _ ah;refine wpAny_bind (wpAny_setField_rec am (22:) λhg ac sg=>?_)
 replace ac:IsZip hg zp ti tu (rawInt G.objs.size):=ac
 refine wpAny_setField_rec ac (22:) λhh Y sh=>?_
 replace Y:IsZip hh zp ti tu (rawInt G.objs.size):=Y
 have Z:∀b o,b≠zp->G.get? b=some o->hh.get? b=some o:=λb o L e=>sh.extBut _ _ L (sg.extBut _ _ L (Heap.get?_push_of_some _ e));have ad:IsPair hh G.objs.size p q:=sh.extBut _ _ (Nat.ne_of_gt lz) (sg.extBut _ _ (Nat.ne_of_gt lz) (Heap.get?_push_size _ rfl));rw [U]at Y ad;refine wpAny_pure ⟨_,rfl,?_⟩;show Q (.ref G.objs.size) _;rw [U];exact k hh Y (Z _ _ Ap.TOz M) (ak.at λo e=>Z _ o Ap.i1z e) (al.at λo e=>Z _ o Ap.i2z e) ad λb o L b2 b3 b4 e=>Z b o L (ae b o L b2 b3 b4 e)
theorem Mf{zp ti tu j1 j2 t1 t2:Addr}{n1 n2:Nat}{us vs:Array Value}{c d:Value}{Q:Fin->Shared->Prop}(hh:A.handled=none)(Ap:ZipApart zp ti tu j1 j2 t1 t2)
 (gz:IsZip s.heap zp ti tu .none) (gi:IsPair s.heap ti (.ref j1) (.ref j2)) (gu:IsPair s.heap tu c d)
 (w1:s.heap.IsTupleIter j1 t1 n1) (l1:s.heap.IsTuple t1 us) (ep:us[n1]?=none)
 (k:∀h' e,(10:)->(∃o,h'.get? e=some o/\o.cls=.type "StopIteration")->E (.ref e) { s with heap:=h' }):
 wpAny (15:) A (Builtin.«zip.__next__» ⟨[.ref zp],[]⟩) Q E s:=by
 show wpAny _ _ (field (.ref zp) 2>>=_) _ _ _;refine wpAny_bind (wpAny_field gz rfl (x:=.bool false) rfl ?_);show wpAny _ _ (field (.ref zp) 3>>=_) _ _ _;refine wpAny_bind (wpAny_field gz rfl (x:=.ref ti) rfl ?_);refine wpAny_bind (wpAny_seqItems gi rfl ?_);show wpAny _ _ (Builtin.SmallTypes.ownedTupleIsFree (.ref zp)>>=_) _ _ _;refine wpAny_bind ?_;(unfold Builtin.SmallTypes.ownedTupleIsFree);refine wpAny_bind (wpAny_field gz rfl (x:=.none) rfl (wpAny_pure ?_));simp only [if_true];refine wpAny_bind (wpAny_rule (wpAny_bind (wpAny_field gz rfl (x:=.ref tu) rfl ?_)));refine wpAny_bind (wpAny_setField_rec gz (22:) λha G U=>?_)
 replace G:IsZip ha zp ti tu .ellipsis:=G
 refine wpAny_bind ?_;simp only [List.forIn_cons,List.forIn_nil,List.zipIdx_cons,List.zipIdx_nil];refine wpAny_bind (wpAny_bind (wpAny_onRaise ?_));show wpAny _ _ (Builtin.SmallTypes.nextOf (.ref j1)>>=_) _ _ _;refine wpAny_bind (UG hh (w1.extBut U.extBut Ap.i1z) (l1.extBut U.extBut Ap.l1z) ep λhb e Y ge=>?_);obtain⟨oe,J,L⟩:=ge;have M:IsZip hb zp ti tu .ellipsis:=Y _ _ Ap.i1z.symm G;have Z:e≠zp:=λx=>by subst x;rw [M]at J;cases J;simp at L
 refine wpAny_setField_rec M (22:) λhc _ sc=>k hc e (λb o b1 _ b3 _ x=>sc.extBut _ _ b1 (Y _ _ b3 (U.extBut _ _ b1 x))) ⟨oe,sc.extBut _ _ Z J,L⟩
theorem Uw{zp ti tu j1 j2 t1 t2:Addr}{n1 n2:Nat}{us vs:Array Value}{p q c d:Value}{Q:Option Value->Shared->Prop}(Ap:ZipApart zp ti tu j1 j2 t1 t2)
 (gz:IsZip s.heap zp ti tu .none) (gi:IsPair s.heap ti (.ref j1) (.ref j2)) (gu:IsPair s.heap tu c d)
 (w1:s.heap.IsTupleIter j1 t1 n1) (w2:s.heap.IsListIter j2 t2 n2) (l1:s.heap.IsTuple t1 us) (l2:s.heap.IsList t2 vs) (ep:us[n1]?=some p) (eq:vs[n2]?=some q)
 (k:∀h',IsZip h' zp ti tu (rawInt s.heap.objs.size)->IsPair h' tu p q->h'.IsTupleIter j1 t1 (n1+1)->h'.IsListIter j2 t2 (n2+1)->IsPair h' s.heap.objs.size p q->
  (10:)->Q (some (33:)) { s with heap:=h' }):
 wpAny (15:) A (pyNext (.ref zp)) Q E s:=by
 have G:s.TypeIs (.ref zp) "zip":=⟨_,gz,rfl⟩;unfold pyNext;exact wpAny_bind (wpAny_attempt (wpAny_callSpecial?_slot (name:=Str.ofString "__next__") G F.slot_zip_next (wpAny_call_entry F.slot_zip_next G F.entry_zip_next (Lr Ap gz gi gu w1 w2 l1 l2 ep eq λh' J a2 L M U Y=>wpAny_pure (k h' J a2 L M U Y)) (F.args_zip_next_1 _))))
theorem UN{zp ti tu j1 j2 t1 t2:Addr}{n1 n2:Nat}{us:Array Value}{c d:Value}{Q:Option Value->Shared->Prop}(hh:A.handled=none)(Ap:ZipApart zp ti tu j1 j2 t1 t2)
 (gz:IsZip s.heap zp ti tu .none) (gi:IsPair s.heap ti (.ref j1) (.ref j2)) (gu:IsPair s.heap tu c d) (w1:s.heap.IsTupleIter j1 t1 n1) (l1:s.heap.IsTuple t1 us) (ep:us[n1]?=none)
 (k:∀h',(10:)->Q none { s with heap:=h' }):wpAny (15:) A (pyNext (.ref zp)) Q E s:=by
 have G:s.TypeIs (.ref zp) "zip":=⟨_,gz,rfl⟩;unfold pyNext;refine wpAny_bind (wpAny_attempt (wpAny_callSpecial?_slot (name:=Str.ofString "__next__") G F.slot_zip_next (wpAny_call_entry F.slot_zip_next G F.entry_zip_next (Mf hh (n2:=n2) (vs:=us) Ap gz gi gu w1 l1 ep λh' e J L=>?_) (F.args_zip_next_1 _))));obtain⟨o,M,U⟩:=L;exact wpAny_bind (wpAny_isInstance (T:="StopIteration") (b:=true) ⟨o,M,U⟩ isSubtype_stop (wpAny_pure (k _ J)))
abbrev zM1(h:Heap)(t1:Addr):Heap:=h.push { cls:=.type "tuple_iterator",data:=.fields #[.ref t1,.int 0 0] }
abbrev zM2(h:Heap)(t1 t2:Addr):Heap:=(zM1 h t1).push { cls:=.type "list_iterator",data:=.fields #[.ref t2,.int 0 0] }
abbrev zM3(h:Heap)(t1 t2:Addr):Heap:=(zM2 h t1 t2).push { cls:=.type "tuple",data:=.seq #[.ref h.objs.size,.ref (zM1 h t1).objs.size] }
abbrev zM4(h:Heap)(t1 t2:Addr):Heap:=(zM3 h t1 t2).push { cls:=.type "tuple",data:=.seq #[.none,.none] }
abbrev zM5(h:Heap)(t1 t2:Addr):Heap:=(zM4 h t1 t2).push { cls:=.type "zip",data:=.fields #[.none,.bool false,.bool false,.ref (zM2 h t1 t2).objs.size,.ref (zM3 h t1 t2).objs.size] }
theorem NA(t1 t2:Addr)(us vs:Array Value):
 Meets (Builtin.«zip.__new__» ⟨[.type "zip",.ref t1,.ref t2],[]⟩) (λ_ R s=>s.heap.IsTuple t1 us/\s.heap.IsList t2 vs/\
  R (.ok (.ret (.ref (zM4 s.heap t1 t2).objs.size))) { s with heap:=zM5 s.heap t1 t2 }):=
 .of_wp λprog w A R s h=>by
  obtain⟨hp,g,d,tk,G⟩:=s;obtain⟨J,L,h⟩:=h;have M:=sub_zip;have U:Heap.IsTuple (Shared.heap ⟨hp,g,d,tk,G⟩) t1 us:=J;have Y:Heap.IsList (Shared.heap ⟨hp.push { cls:=.type "tuple_iterator",data:=.fields #[.ref t1,.int 0 0] },g,d,tk,G⟩) t2 vs:=let⟨o,e,r⟩:=L;⟨o,Heap.get?_push_of_some _ e,r⟩
  wp_walk using wpAny_pyIter_tuple U,wpAny_pyIter_list Y
  exact⟨_,rfl,h⟩
theorem GQ{t1 t2:Addr}{us vs:Array Value}{Q:Value->Shared->Prop}(l1:s.heap.IsTuple t1 us)(l2:s.heap.IsList t2 vs)
 (h:∀h',IsZip h' (s.heap.objs.size+4) (s.heap.objs.size+2) (s.heap.objs.size+3) .none->IsPair h' (s.heap.objs.size+2) (33:) (.ref (16:))->
  IsPair h' (s.heap.objs.size+3) .none .none->h'.IsTupleIter s.heap.objs.size t1 0->h'.IsListIter (16:) t2 0->
  (∀c o,s.heap.get? c=some o->h'.get? c=some o)->Q (.ref (s.heap.objs.size+4)) { s with heap:=h' }):
 wpAny (15:) A (call (.type "zip") [.ref t1,.ref t2]) Q E s:=by
 refine callType_new F.called_zip (12:) (F.typeCall_zip_2 _ _) (F.newCall_zip_2 _ _) (λU=>F.args_object_init_3 U _ _) F.entry_zip_new (NA t1 t2 us vs) ⟨l1,l2,?_⟩;have G:(zM1 s.heap t1).objs.size=s.heap.objs.size+1:=Heap.size_push ..;have J:(zM2 s.heap t1 t2).objs.size=s.heap.objs.size+2:=by rw [Heap.size_push,G]
 have L:(zM3 s.heap t1 t2).objs.size=s.heap.objs.size+3:=by rw [Heap.size_push,J]
 have Y:(zM4 s.heap t1 t2).objs.size=s.heap.objs.size+4:=by rw [Heap.size_push,L]
 have M:(zM5 s.heap t1 t2).get? (zM4 s.heap t1 t2).objs.size=some _:=Heap.get?_push_size _ rfl;have Z:(zM5 s.heap t1 t2).get? (zM3 s.heap t1 t2).objs.size=some _:=Heap.get?_push_of_some _ (Heap.get?_push_size _ rfl);have r3:(zM5 s.heap t1 t2).get? (zM2 s.heap t1 t2).objs.size=some _:=Heap.get?_push_of_some _ (43:);have r2:(zM5 s.heap t1 t2).get? (zM1 s.heap t1).objs.size=some _:=Heap.get?_push_of_some _ (Heap.get?_push_of_some _ (43:));have r1:(zM5 s.heap t1 t2).get? s.heap.objs.size=some _:=Heap.get?_push_of_some _ (Heap.get?_push_of_some _ (Heap.get?_push_of_some _ (43:)));show _/\_;rw [J,L,Y]at M;rw [G,J]at r3;rw [L]at Z;rw [G]at r2;rw [Y];exact⟨⟨_,M,rfl⟩,h _ M r3 Z ⟨_,r1,rfl,rfl⟩ ⟨_,r2,rfl,rfl⟩ λb o x=>Heap.get?_push_of_some _ (Heap.get?_push_of_some _ (Heap.get?_push_of_some _ (Heap.get?_push_of_some _ (Heap.get?_push_of_some _ x))))⟩
end
def Rh(K:Fg)(a b:Addr)(xs ys:List V):It:=
 ⟨λi H=>SqT K H a xs/\SqL K H b ys/\i<xs.length/\i<ys.length,λi H x H'=>∃p u v,H p=none/\x=.ref p/\H'=upd H p (.tup [u,v])/\xs[i]?=some u/\ys[i]?=some v,λi H=>SqT K H a xs/\xs.length<=i⟩
theorem GR{P:Program}{w:World}{K:Fg}{elts:List Expr}{k1:Nat}{pos:Pos}(a b z:Addr)(xs ys:List V)(TI TO i1 i2:Addr)(Ap:ZipApart z TI TO i1 i2 a b):
 Turn P w K (.Tuple elts k1 pos) (Rh K a b xs ys) [z,TI,TO,i1,i2] z (λi h=>IsZip h z TI TO .none/\IsPair h TI (.ref i1) (.ref i2)/\(∃u v,IsPair h TO u v)/\h.IsTupleIter i1 a i/\h.IsListIter i2 b i) where
 mem:=by simp
 obj:=λi h st c G=>by
  obtain⟨U,J,⟨u,v,L⟩,h1,h2⟩:=st;simp only [List.mem_cons,List.mem_nil_iff,or_false]at G;rcases G with rfl | rfl | rfl | rfl | rfl
  .exact⟨_,U,λv z=>by have Y:Data.fields _=Data.cell v:=z;cases Y⟩
  .exact⟨_,J,λv z=>by have Y:Data.seq _ _=Data.cell v:=z;cases Y⟩
  .exact⟨_,L,λv z=>by have Y:Data.seq _ _=Data.cell v:=z;cases Y⟩
  .obtain⟨o,e,c,d⟩:=h1;exact(41:)
  .obtain⟨o,e,c,d⟩:=h2;exact(41:)
 keep:=λi h h' st k=>by
  obtain⟨U,J,⟨u,v,L⟩,h1,h2⟩:=st;exact(47:)
 item:=by
  intro X hP hw hK G i pins s σ H E I hf st hg;subst hP hw hK;obtain⟨U,J,⟨u0,v0,L⟩,h1,h2⟩:=st;obtain⟨qa,qb,lx,ly⟩:=hg;obtain⟨its,rv,p,_⟩:=I.tuple qa;obtain⟨ag,ab,p2,_⟩:=I.list qb;have ex:xs[i]?=some xs[i]:=List.getElem?_eq_getElem lx;have ey:ys[i]?=some ys[i]:=List.getElem?_eq_getElem ly;obtain⟨u,hu,ru⟩:=rv.get ex;obtain⟨v,hv,ac⟩:=ab.get ey;refine Uw Ap U J L h1 h2 p p2.isList (p:=u) (q:=v) (by simpa using hu) (by simpa using hv) λh' a1 a2 a3 a4 a5 hk=>?_;refine⟨.ref s.heap.objs.size,rfl,wpAny_letOwnedTupleGo_zip (s:={ s with heap:=h' }) a1 λaa ad M=>?_⟩;have lt:∀{c o},s.heap.get? c=some o->c≠s.heap.objs.size:=λe=>Nat.ne_of_lt (36:);have e5:IsPair aa s.heap.objs.size u v:=(M.2 _ (Ne.symm (lt U))).trans a5;have Z:∀c∈[z,TO,i1,i2],YH X pins H c:=λc G=>hf c (by
   simp only [List.mem_cons,List.mem_nil_iff,or_false]at G ⊢;rcases G with rfl | rfl | rfl | rfl<;>simp)
  have I2:Inv X pins σ (upd H s.heap.objs.size (.tup [xs[i],ys[i]])) { s with heap:=aa,toks:=s.toks }:=by
   refine I.turnedNew (ch:=[z,TO,i1,i2]) (λc o G e=>?_) Z (5:) ⟨by show 2<=sizeLine;decide,[u,v],.cons ru (.cons ac .nil),⟨_,e5,rfl,_,rfl⟩⟩;simp only [List.mem_cons,List.mem_nil_iff,or_false,not_or]at G;exact(M.2 c G.1).trans (hk c o G.1 G.2.1 G.2.2.1 G.2.2.2 e)
  have ae:∀c∈[z,TI,TO,i1,i2],upd H s.heap.objs.size (.tup [xs[i],ys[i]]) c=none:=λc G=>by
   have af:=hf c G;have:c≠s.heap.objs.size:=by
    simp only [List.mem_cons,List.mem_nil_iff,or_false]at G;rcases G with rfl | rfl | rfl | rfl | rfl
    .exact lt U
    .exact lt J
    .exact lt L
    .obtain⟨o,e,_⟩:=h1;exact lt e
    .obtain⟨o,e,_⟩:=h2;exact lt e
   rw [Qh this];exact af.1
  exact⟨.ref s.heap.objs.size,_,I2,rfl,⟨s.heap.objs.size,_,_,I.fresh,rfl,rfl,ex,ey⟩,⟨ad,M.extBut _ _ Ap.TIz (hk _ _ Ap.TIz Ap.TITO Ap.TIi1 Ap.TIi2 J),⟨_,_,M.extBut _ _ Ap.TOz a2⟩,a3.extBut M.extBut Ap.i1z,a4.extBut M.extBut Ap.i2z⟩,ae⟩
 done:=by
  intro X hP hw hK G i pins s σ H E I hf st hg;subst hP hw hK;obtain⟨U,J,⟨u0,v0,L⟩,h1,h2⟩:=st;obtain⟨qa,hl⟩:=hg;obtain⟨its,rv,p,_⟩:=I.tuple qa;have l1:=rv.length;have Z:∀c∈[z,TO,i1,i2],YH X pins H c:=λc G=>hf c (by
   simp only [List.mem_cons,List.mem_nil_iff,or_false]at G ⊢;rcases G with rfl | rfl | rfl | rfl<;>simp)
  refine UN (n2:=0) (I.ok.hd G) Ap U J L h1 p (by simp;lia) λh' hk=>⟨rfl,I.turnedL (t':=s.toks) (ch:=[z,TO,i1,i2]) (λc o G e=>?_) Z⟩;simp only [List.mem_cons,List.mem_nil_iff,or_false,not_or]at G;exact hk c o G.1 G.2.1 G.2.2.1 G.2.2.2 e
 self:=λ_ _ _ _ _ st h=>wpAny_pyIter_zip st.1 h
section
variable{X:Cx}{elts:List Expr}{k1:Nat}{tpos:Pos}
def SF(K:Fg)(ta:TA):TI:=λσ H R=>ta σ H λvs H1=>∃a b xs ys,vs=[.ref a,.ref b]/\SqT K H1 a xs/\SqL K H1 b ys/\R (Rh K a b xs ys) H1
theorem OK{e1 e2:Expr}{ta:TA}{p pos:Pos}(hg:Gl X "zip")(hm:X.mg "zip"=none)(ha:PA X [e1,e2] ta)(hs:starEach [e1,e2] X.env=[(false,eval e1 X.env),(false,eval e2 X.env)]:=by rfl)(hs2:starEach [e2] X.env=[(false,eval e2 X.env)]:=by rfl):
 PI X (.Tuple elts k1 tpos) (.Call (.Name "zip" p) [e1,e2] [] pos) (SF X.K ta):=by
 intro pins s σ H R I h;refine Call_ (Z7 I hg hm PyProof.Rows.boot_zip (PyProof.Rows.callWith_type1 (thn (ha pos pins s σ H _ I h) λus G ⟨vs,H1,J,r1,q1⟩=>?_) (by rw [hs,hs2]) (by rw [hs2];rfl)));obtain⟨a,b,xs,ys,e,qa,qb,q⟩:=q1;subst e;obtain⟨u1,u2,e3,r3,r4⟩:=r1.two;subst e3;cases (show u1=Value.ref a from r3);cases (show u2=Value.ref b from r4);obtain⟨its,rv,pl,_⟩:=J.tuple qa;obtain⟨aa,ab,L,_⟩:=J.list qb;have la:@LT.lt Nat _ a G.heap.objs.size:=by obtain⟨o,e,_⟩:=pl;exact Heap.lt_size e
 have lb:@LT.lt Nat _ b G.heap.objs.size:=by obtain⟨o,_,e,_⟩:=L;exact Heap.lt_size e
 refine GQ pl L.isList λh' U Y Z h1 h2 hk=>?_;refine wpAny_pyIter_zip U ?_;have I2:Inv X pins σ H1 { G with heap:=h' }:=J.kept (t':=G.toks) hk;refine⟨G.heap.objs.size+4,[G.heap.objs.size+4,G.heap.objs.size+2,G.heap.objs.size+3,G.heap.objs.size,G.heap.objs.size+1],_,_,H1,rfl,I2,GR a b (G.heap.objs.size+4) xs ys (G.heap.objs.size+2) (G.heap.objs.size+3) G.heap.objs.size (G.heap.objs.size+1) ?_,⟨U,Y,⟨_,_,Z⟩,h1,h2⟩,λc hc=>?_,q⟩
 .constructor<;>(refine nne ?_;lia)
 .have M:@LE.le Nat _ G.heap.objs.size c:=by
   simp only [List.mem_cons,List.mem_nil_iff,or_false]at hc;rcases hc with rfl | rfl | rfl | rfl | rfl<;>lia
  exact J.fpOk M (J.hok.fresh M)
end
end L2
namespace K70
open PySem L2 TM TT ST K9 K11
abbrev Rn:Stmt:=top 1
abbrev sMP:Stmt:=top 2
abbrev XN:Stmt:=top 4
abbrev VC:Stmt:=top 5
abbrev PM:Stmt:=top 7
abbrev XV:Stmt:=top 9
abbrev sHO:Stmt:=top 10
abbrev Vy:Stmt:=top 11
abbrev VI:Stmt:=top 13
abbrev Vr:Stmt:=top 28
abbrev LL:Stmt:=top 33
abbrev MZ:Stmt:=top 34
abbrev JB:Stmt:=top 41
abbrev Rf:Stmt:=top 42
abbrev Vu:Stmt:=top 40
abbrev Wu:Stmt:=top 35
abbrev YZ:Stmt:=top 36
abbrev Vx:Stmt:=top 37
abbrev Xn:Stmt:=top 38
abbrev YR:Stmt:=top 39
abbrev M6:Stmt:=top 43
abbrev MO:Stmt:=top 44
abbrev O4:Stmt:=top 45
abbrev VG:Stmt:=top 46
theorem YX{K:Fg}{H:Hp}{v:V}{t:Tm}(h:TmV K H v t):(∃a m b,v=.ref a/\t=Rl m b/\SqT K H a [.str Yi,.int m,.int b]) \/
 ∃a b vs n k ad,v=.ref a/\t=.node (.put n k ad) 0 t.bs/\SqT K H a [.str PUT,.str n,.bl k,.int ad,.ref b]/\SqT K H b vs/\TmAll K H vs t.bs/\vs.length<=1000:=by
 cases h with
 | call h=>exact .inl ⟨_,_,_,rfl,rfl,h⟩
 | put h1 h2 G J=>exact .inr ⟨_,_,_,_,_,_,rfl,rfl,h1,h2,G,J⟩
theorem UX{α:Type}{p:α->Bool}:∀{l:List α}{i:Nat}{x:α},l[i]?=some x->p x=true->(∀(j:Nat) y,j<i->l[j]?=some y->p y=false)->l.find? p=some x
 | [],i,x,h,_,_=>by simp at h
 | a::r,0,x,h,hp,_=>by
  have:a=x:=by simpa using h
  subst this;rw [List.find?_cons,hp]
 | a::r,i+1,x,h,hp,hn=>by
  have G:=hn 0 a (3:) rfl;rw [List.find?_cons,G];exact UX (i:=i) (by simpa using h) hp λj y J e=>hn (j+1) y (3:) (by simpa using e)
theorem NL{α:Type}{p:α->Bool}{l:List α}(h:∀(j:Nat) y,l[j]?=some y->p y=false):l.find? p=none:=by
 rw [List.find?_eq_none];intro x G;obtain⟨j,J,e⟩:=List.getElem_of_mem G;have:=h j x (by rw [List.getElem?_eq_getElem J,e]);simp [this]
def Wp(K:Fg):Sp:=λvs H Q _=>∃(v:V)(t:Tm),vs=[v]/\TmV K H v t/\Q (.bl (isC (lab t))) H
def Ub(K:Fg):Sp:=λvs H Q _=>∃(w:Addr)(kind:Str)(ks:List KdT),vs=[.ref w,.str kind]/\WoodAt K H w ks/\WoodOk ks/\∀(lr:Addr)(H':Hp),Same H H'->RowsL K H' lr (QF ks kind)->Q (.ref lr) H'
def XC(K:Fg):Sp:=λvs H Q _=>∃(w:Addr)(kind name:Str)(ks:List KdT),vs=[.ref w,.str kind,.str name]/\WoodAt K H w ks/\WoodOk ks/\∀(v:V)(H':Hp),Same H H'->SX K H' v (Vv ks kind name)->Q v H'
def Ms(K:Fg):Sp:=λvs H Q _=>∃(p w lm:Addr)(v:V)(i:Nat)(name:Str)(ks:List KdT)(ms:List MdT)(m:MdT),vs=[.ref p,.int (i:Int),.str name]/\SqT K H p [.ref w,v,.ref lm]/\WoodAt K H w ks/\WoodOk ks/\ModesL K H lm ms/\ms[i]?=some m/\m.2.2.2.2.length=(QF ks m.2.1).length/\∀v' H',Same H H'->TmO K H' v' (Xj ks m.md name)->Q v' H'
def Uc:Sp:=λvs H Q _=>∃i:Int,vs=[.int i]/\Q (.bl true) H
section
variable{P:Program}{w:World}{K:Fg}{mg:Str->Option Value}{base:Heap}{f:Addr}{fd:FuncData}
theorem RQ:FnScope ["term"] ["term"] (defScope Rn):=(1:)
theorem P1(F:Fun K "is_call" "is_call" Rn f fd):FnOk P w K mg base CX0 1 f fd ["term"] (Wp K):=by
 refine F.ok RQ (7:) (λL A outer s H vs Q E M h=>?_)
 .obtain⟨v,t,rfl,_⟩:=h
  rfl
 obtain⟨v,t,rfl,G,q⟩:=h;refine⟨_,(Qg (Ql (ZH Za (25:) Zr (Qu _)))),?_⟩;rcases YX G with⟨a,m,b,rfl,rfl,h1⟩ | ⟨a,b,bs,n,k,U,rfl,J,h1,h2,Y,Z⟩
 .refine⟨_,rfl,a,_,0,_,rfl,rfl,h1,rfl,rfl,?_⟩;have e:decide (V.str Yi=V.str Yi)=true:=decide_eq_true rfl;show Q (.bl (decide (V.str Yi=V.str Yi))) H;rw [e];exact q
 .refine⟨_,rfl,a,_,0,_,rfl,rfl,h1,rfl,rfl,?_⟩;have e:decide (V.str PUT=V.str Yi)=false:=by decide+kernel
  show Q (.bl (decide (V.str PUT=V.str Yi))) H;rw [J]at q;rw [e];exact q
theorem NB:FnScope ["wood","kind"] ["wood","kind"] (defScope XN):=(1:)
theorem GZ(F:Fun K "rows_of" "rows_of" XN f fd)(G:Gm mg):FnOk P w K mg base CX0 1 f fd ["wood","kind"] (Ub K):=by
 refine F.ok NB (7:) (λaa A outer s H vs Q E Y h=>?_)
 .obtain⟨w,kind,ks,rfl,_⟩:=h
  rfl
 obtain⟨wd,kind,ks,rfl,L,U,q⟩:=h;refine⟨_,(Qg (Ql (WZ (J1 Y) (QR (JA rfl) rfl G.dct PyProof.Rows.boot_dict (Qa (pv 0) Qc)) (pv 1) (QY Qc) ⟨rfl,rfl,rfl,rfl⟩))),?_⟩;have Z:=U.len;refine⟨_,rfl,wd,ks.map (λk=>(k.1,k.2.1,V.ref k.2.2.1)),rfl,(by rw [List.map_map];exact L.1),λt M=>?_,(by rw [List.map_map];exact U.nd),(29:),λd hd=>⟨d,rfl,.inl ⟨_,.inl Qb⟩,_,rfl,(21:),λp hp=>⟨_,DGet.k (k:=Sum.inr kind) ((Qe hp _) _ _ Qb),?_⟩⟩⟩
 .obtain⟨k,hk,rfl⟩:=List.mem_map.mp M;exact(L.2 k hk).1
 .have g1:=Qe hd (.dK ((ks.map (λk=>(k.1,k.2.1,V.ref k.2.2.1))).map λt=>((Sum.inr t.2.1:Key),t.2.2)));have g2:=Qe hp (.lst []);have J:=g1.trans g2;have ev:ZG ((ks.map (λk=>(k.1,k.2.1,V.ref k.2.2.1))).map λt=>((Sum.inr t.2.1:Key),t.2.2)) (Sum.inr kind)=(ks.find? λk=>decide (k.2.1=kind)).map λk=>V.ref k.2.2.1:=by
   rw [List.map_map];exact XG (λk:KdT=>k.2.1) (λk=>V.ref k.2.2.1) kind ks
  rw [ev];unfold QF at q;cases e:ks.find? λk=>decide (k.2.1=kind)with
  | none=>
   rw [e]at q;exact q p _ J ⟨SqL.of Qb,λt M=>(nomatch M)⟩
  | some k=>
   rw [e]at q;exact q k.2.2.1 _ J ((L.2 k (List.mem_of_find?_eq_some e)).2.same J)
theorem Oi:FnScope ["wood","kind","name"] ["wood","kind","name"] (defScope VC):=(1:)
theorem LJ(F:Fun K "row_of" "row_of" VC f fd)(G:Gm mg)(RO:Fn P w K mg base 1 "rows_of" ["wood","kind"] (Ub K)):FnOk P w K mg base CX0 2 f fd ["wood","kind","name"] (XC K):=by
 refine F.ok Oi (7:) (λab A outer s H vs Q E U h=>?_)
 .obtain⟨w,kind,name,ks,rfl,_⟩:=h
  rfl
 obtain⟨wd,kind,name,ks,rfl,hW,Y,q⟩:=h;refine⟨_,(Qg (Ql (MU (J1 U) (QR (JA rfl) rfl G.dct PyProof.Rows.boot_dict (Qa (Qp RO U (Qa (pv 0) (Qa (pv 1) Qc))) Qc)) (pv 2) ⟨rfl,rfl,rfl,rfl⟩))),?_⟩;refine⟨_,rfl,_,rfl,wd,kind,ks,rfl,hW,Y,λlr H1 Z L=>?_⟩;have J:=L9 Y kind;have aa:=J.len;refine⟨lr,(QF ks kind).map (λr=>(r.1,r.2.1,V.ref r.2.2.1)),rfl,(by rw [List.map_map];exact L.1),λt ht=>?_,(by rw [List.map_map];exact J.nd),(29:),λd hd=>⟨d,rfl,.inl ⟨_,.inl Qb⟩,_,rfl,_,DGet.k (k:=Sum.inr name) Qb,?_⟩⟩
 .obtain⟨k,hk,rfl⟩:=List.mem_map.mp ht;exact(L.2 k hk).1
 .have M:=Qe hd (.dK (((QF ks kind).map (λr=>(r.1,r.2.1,V.ref r.2.2.1))).map λt=>((Sum.inr t.2.1:Key),t.2.2)));have ev:ZG (((QF ks kind).map (λr=>(r.1,r.2.1,V.ref r.2.2.1))).map λt=>((Sum.inr t.2.1:Key),t.2.2)) (Sum.inr name)=((QF ks kind).find? λr=>decide (r.2.1=name)).map λr=>V.ref r.2.2.1:=by
   rw [List.map_map];exact XG (λr:PNx=>r.2.1) (λr=>V.ref r.2.2.1) name (QF ks kind)
  rw [ev];unfold Vv at q;cases e:(QF ks kind).find? λr=>decide (r.2.1=name)with
  | none=>
   rw [e]at q;exact q .non _ (Z.trans M) rfl
  | some r=>
   rw [e]at q;exact q (.ref r.2.2.1) _ (Z.trans M) ⟨_,rfl,M.seqT (L.2 r (List.mem_of_find?_eq_some e)).2⟩
theorem WJ:FnScope ["turning","mode","name","kind","rules","row","rule"] ["turning","mode","name"] (defScope PM):=(1:)
theorem Pb(F:Fun K "rule_of" "rule_of" PM f fd)(G:Gm mg)(RO:Fn P w K mg base 1 "rows_of" ["wood","kind"] (Ub K)):FnOk P w K mg base CX0 2 f fd ["turning","mode","name"] (Ms K):=by
 refine F.ok WJ (7:) (λak A outer s H vs Q E hr h=>?_)
 .obtain⟨p,wd,lm,v,i,name,ks,ms,m,rfl,_⟩:=h
  rfl
 obtain⟨p,wd,lm,v,i,name,ks,ms,m,rfl,hp,hW,hO,hM,hm,aj,q⟩:=h;refine⟨_,(Qf (Qo (i:=3) WJ.nd rfl (9:) (Qk Qj (Qk Qw (25:) (pv 1) (2:)) Qd (2:)))
  (Qf (Qo (i:=4) WJ.nd rfl (9:) (Qk Qj (Qk Qw (25:) (pv 1) (2:)) Qd (2:)))
  (Qf (QL PassesOwn.never rfl (XR rfl G.zip (Qa (Qp RO hr (Qa (25:) (Qa (pv 3) Qc))) (Qa (pv 4) Qc))) (Zs rfl (Qy (Qt (i:=5) WJ.nd rfl (9:)) (Qy (Qt (i:=6) WJ.nd rfl (9:)) Zg)))
   (Qg (QC (Qr Za (Qk Qj (pv 5) Qd (2:)) (pv 2) (Qu _)) (Qg (Ql (pv 6))) Qq)))
  (Qg (Ql Zq))))),?_⟩
 have ad:=List.mem_of_getElem? hm;have M:=hM.2 m ad;have aa:atI (ms.map λm=>V.ref m.1) (i:Int)=some (.ref m.1):=QB (by rw [List.getElem?_map,hm];rfl);refine⟨_,rfl,p,_,2,_,rfl,rfl,hp,rfl,_,rfl,lm,_,_,_,rfl,rfl,hM.1,aa,m.1,_,0,_,rfl,rfl,M.1,rfl,?_⟩;refine⟨_,rfl,p,_,2,_,rfl,rfl,hp,rfl,_,rfl,lm,_,_,_,rfl,rfl,hM.1,aa,m.1,_,1,_,rfl,rfl,M.1,rfl,?_⟩;refine⟨_,rfl,p,_,0,_,rfl,rfl,hp,rfl,_,rfl,wd,m.2.1,ks,rfl,hW,hO,λlr H1 Y hR=>⟨_,rfl,lr,m.2.2.1,_,m.2.2.2.1,rfl,hR.1,Y.seq M.2.1,?_⟩⟩;have al:=M.2.2.length;have ab:((QF ks m.2.1).map λt=>V.ref t.1).length=(QF ks m.2.1).length:=List.length_map ..;refine Xo (K:=K) (by rw [ab];lia) (λj σ H'=>∃Z c6,σ=[some (.ref p),some (.int (i:Int)),some (.str name),some (.str m.2.1),some (.ref m.2.2.1),Z,c6]/\Same H1 H'/\∀(k:Nat) r,k<j->(QF ks m.2.1)[k]?=some r->r.2.1≠name)
  ⟨none,none,rfl,Same.refl _,λk r U _=>by lia⟩ ?_ ?_ ?_
 .rintro j σ H' _ ⟨Z,c6,_,g,_⟩;exact⟨g.seq hR.1,(Y.trans g).seq M.2.1⟩
 .rintro j u v' pp σ H' hu hv ae ⟨Z,c6,rfl,g,J⟩;have L:j<(QF ks m.2.1).length:=by
   have:=(List.getElem?_eq_some_iff.mp hu).1
   simpa using this
  have ac:j<m.2.2.2.2.length:=by lia
  obtain⟨cv,af,ag⟩:=M.2.2.get (List.getElem?_eq_getElem ac);obtain rfl:cv=v':=Option.some.inj (af.symm.trans hv);obtain rfl:u=.ref (QF ks m.2.1)[j].1:=by
   rw [List.getElem?_map,List.getElem?_eq_getElem L]at hu;exact(Option.some.inj hu).symm
  have gp:=Qe ae (.tup [.ref (QF ks m.2.1)[j].1,cv]);have gg:=Y.trans (g.trans gp);have ah:=(hR.2 _ (List.getElem_mem L)).same (g.trans gp);refine⟨pp,_,rfl,SqT.of Qb,rfl,_,_,rfl,_,_,rfl,rfl,?_⟩;refine⟨_,rfl,_,_,0,_,rfl,rfl,ah.1,rfl,_,rfl,rfl,_,rfl,?_⟩
  by_cases he:(QF ks m.2.1)[j].2.1=name
  .refine JJ (by rw [he]) ⟨_,rfl,q cv _ gg ?_⟩;have ef:((QF ks m.2.1).zip m.2.2.2.2).find? (λx=>decide (x.1.2.1=name))=some ((QF ks m.2.1)[j],m.2.2.2.2[j]):=by
    refine UX (i:=j) (by rw [List.getElem?_zip_eq_some];exact⟨List.getElem?_eq_getElem L,List.getElem?_eq_getElem ac⟩) (decide_eq_true he) λk y U e=>?_;rw [List.getElem?_zip_eq_some]at e;exact decide_eq_false (J k y.1 U e.1)
   unfold Xj MdT.md;rw [ef];exact ag.mono λ_ _=>gg.seqT
  .refine JO (λz=>he (by injection z)) ⟨_,_,rfl,g.trans gp,λk r U e=>?_⟩
   by_cases ai:k=j
   .subst ai;rw [List.getElem?_eq_getElem L]at e;cases e;exact he
   .exact J k r (3:) e
 .rintro σ H' ⟨Z,c6,rfl,g,J⟩;refine q .non H' (Y.trans g) ?_;have ef:((QF ks m.2.1).zip m.2.2.2.2).find? (λx=>decide (x.1.2.1=name))=none:=by
   refine NL λk y e=>?_;rw [List.getElem?_zip_eq_some]at e;have U:=(List.getElem?_eq_some_iff.mp e.1).1;exact decide_eq_false (J k y.1 (by rw [ab];exact U) e.1)
  unfold Xj MdT.md;rw [ef]
  rfl
theorem NU:FnScope ["_law_found"] ["_law_found"] (defScope Vr):=(1:)
theorem MI(F:Fun K "_law_whole" "_law_whole" Vr f fd)(G:Gm mg):FnOk P w K mg base CX0 1 f fd ["_law_found"] Uc:=by
 refine F.ok NU (7:) (λJ A outer s H vs Q E L h=>?_)
 .obtain⟨i,rfl,_⟩:=h
  rfl
 obtain⟨i,rfl,q⟩:=h;refine⟨_,(Qg (Ql (Vc (Qn ZR rfl G.isi PyProof.Rows.boot_isinstance (Qa (pv 0) (Qa (Zt (v:=.ty "int") rfl G.int PyProof.Rows.boot_int rfl) Qc))) (VD (LW (Qn ZR rfl G.isi PyProof.Rows.boot_isinstance (Qa (pv 0) (Qa (Zt (v:=.ty "bool") rfl G.boo PyProof.Rows.boot_bool rfl) Qc)))))))),?_⟩;exact⟨_,rfl,_,"int",_,true,rfl,.int _,rfl,_,rfl,QU ⟨_,rfl,_,"bool",_,false,rfl,.int _,rfl,_,rfl,q⟩⟩
end
end K70
namespace G3
open PySem L2
inductive C where
 | v (i:Nat) | k (x:V) | bin (op:Operator) (a b:C) | cmp (op:CmpOp) (a b:C) | ix (a b:C)
 | tup (as:List C) | lst (as:List C) | call (i:Nat) (as:List C)
 | meth (i:Nat) (o:C) (as:List C) | no (a:C) | an (a b:C) | oo (a b:C)
 | nd (i:Nat) (as:List C) | iff (c a b:C)
 | comp (kd:Nat) (it:C) (cap:List Nat) (elt:C) | compI (kd:Nat) (it:C) (cap:List Nat) (cnd elt:C)
abbrev Rel:=St->List V->Hp->VK->Prop
structure Mr where
 ty:V->Hp->Prop
 r:V->List V->Hp->VK->Prop
structure En where
 K:Fg
 fs:List Rel
 ms:List Mr
 nr:List (56:)
 sr:List (St->List V->Hp->(St->Hp->Prop)->Prop)
def TF(a:Option V)(k:V->Prop):Prop:=match a with
 | none=>False
 | some x=>k x
def Pc:St->Nat->(V->Prop)->Prop
 | [],_,_=>False
 | a::_,0,k=>TF a k
 | _::r,n+1,k=>Pc r n k
def Xu:St->Nat->V->(St->Prop)->Prop
 | [],_,_,_=>False
 | _::r,0,x,k=>k (some x::r)
 | a::r,n+1,x,k=>Xu r n x λr'=>k (a::r')
def GX:List V->Nat->Bool
 | [],_=>true
 | _::_,0=>false
 | _::r,n+1=>GX r n
structure Cnd(p q:Prop):Prop where
 c::(h:p) (k:q)
structure NewT(K:Fg)(xs:List V)(H:Hp)(Q:VK):Prop where
 t::(h:∀p H',Same H H'->SqT K H' p xs->H' p=some (.tup xs)->Q (.ref p) H')
structure NewL(xs:List V)(H:Hp)(Q:VK):Prop where
 l::(h:∀p H',Same H H'->H' p=some (.lst xs)->H p=none->Q (.ref p) H')
inductive Ix(K:Fg)(a:Addr)(i:Int)(H:Hp)(Q:VK):Prop where
 | t (xs:List V) (v:V) (h:SqT K H a xs) (e:atI xs i=some v) (k:Q v H):Ix K a i H Q
 | l (xs:List V) (v:V) (h:SqL K H a xs) (e:atI xs i=some v) (k:Q v H):Ix K a i H Q
inductive Cat(K:Fg)(a b:Addr)(H:Hp)(Q:VK):Prop where
 | a (xs ys:List V) (h1:SqT K H a xs) (h2:SqT K H b ys) (hz:xs.length+ys.length<=sizeLine) (k:∀p H',Same H H'->SqT K H' p (xs++ys)->Q (.ref p) H'):Cat K a b H Q
def Pu(i j:Int)(H:Hp)(Q:VK):Prop:=match j with
 | .ofNat (_+1)=>Q (.int (i%j)) H
 | _=>False
def Pd(i j:Int)(H:Hp)(Q:VK):Prop:=match j with
 | .ofNat (n+1)=>cond (Nat.ble (n+2) 1073741824) (Q (.int (i/j)) H) False
 | _=>False
def i2(x y:V)(ki:Int->Int->Prop)(ks:Str->Str->Prop):Prop:=match x with
 | .int i=>match y with
  | .int j=>ki i j
  | _=>False
 | .str i=>match y with
  | .str j=>ks i j
  | _=>False
 | _=>False
def a2(x y:V)(k:Addr->Addr->Prop):Prop:=match x with
 | .ref a=>match y with
  | .ref b=>k a b
  | _=>False
 | _=>False
def Sg:V->Bool
 | .ref _=>true
 | _=>false
def rB(K:Fg)(op:Operator)(x y:V)(H:Hp)(Q:VK):Prop:=match op with
 | .Add=>cond (Sg x) (a2 x y λa b=>Cat K a b H Q) (i2 x y (λi j=>Q (.int (i+j)) H) λ_ _=>False)
 | .Sub=>i2 x y (λi j=>Q (.int (i-j)) H) λ_ _=>False
 | .Mult=>i2 x y (λi j=>Cnd (CMul i j) (Q (.int (i*j)) H)) λ_ _=>False
 | .Mod=>i2 x y (λi j=>Pu i j H Q) λ_ _=>False
 | .FloorDiv=>i2 x y (λi j=>Pd i j H Q) λ_ _=>False
 | _=>False
def Nu:V->Bool
 | .non=>true
 | _=>false
def iN(y:V)(k:Prop):Prop:=cond (Nu y) k False
def rC(op:CmpOp)(x y:V)(H:Hp)(Q:VK):Prop:=match op with
 | .Eq=>i2 x y (λi j=>Q (.bl (decide (i=j))) H) λi j=>Q (.bl (decide (i=j))) H
 | .NotEq=>i2 x y (λi j=>Q (.bl (!decide (i=j))) H) λi j=>Q (.bl (!decide (i=j))) H
 | .Lt=>i2 x y (λi j=>Q (.bl (decide (i<j))) H) λi j=>Q (.bl (decide (i.cps.toList<j.cps.toList))) H
 | .LtE=>i2 x y (λi j=>Q (.bl (decide (i<=j))) H) λ_ _=>False
 | .Gt=>i2 x y (λi j=>Q (.bl (decide (j<i))) H) λ_ _=>False
 | .GtE=>i2 x y (λi j=>Q (.bl (decide (j<=i))) H) λ_ _=>False
 | .Is=>iN y (Q (.bl (Nu x)) H)
 | .IsNot=>iN y (Q (.bl (!Nu x)) H)
 | _=>False
def rX(K:Fg)(x y:V)(H:Hp)(Q:VK):Prop:=match x,y with
 | .ref a,.int i=>Ix K a i H Q
 | _,_=>False
def asB(x:V)(H:Hp)(Q:Bool->Hp->Prop):Prop:=match x with
 | .bl b=>Q b H
 | _=>False
def RK(j:Int):Prop:=-(2^62)<=j/\j<2^62
inductive Cmp(K:Fg)(it:Hp->Prop)(itm:Nat->V)(m:Nat)(cs:St)(tt:TT)(te:TE)(H:Hp)(Q:VK):Prop where
 | s (R:Nat->List V->Hp->Prop) (h0:∀H1,Same H H1->R 0 [] H1)
  (hm:∀acc i ys l H1 H2,R i ys H1->H1 acc=some (.lst l)->H acc=none->(∀a o,a≠acc->H1 a=some o->H2 a=some o)->(∀a xs,SqT K H1 a xs->SqT K H2 a xs)->R i ys H2) (hz:m<=4000)
  (hs:∀i ys H1,i<m->ys.length<=i->Same H H1->R i ys H1->tt (some (itm i)::cs) H1 λb H2=>cond b (te (some (itm i)::cs) H2 λy H3=>Same H1 H3/\R (i+1) (ys++[y]) H3) (Same H1 H2/\R (i+1) ys H2))
  (hd:∀p ys H1,Same H H1->H1 p=some (.lst ys)->R m ys H1->Q (.ref p) H1):Cmp K it itm m cs tt te H Q
 | m (R:Addr->Nat->List V->Hp->Prop) (hz:m<=4000) (h0:∀acc H1,H acc=none->Same H H1->H1 acc=some (.lst [])->R acc 0 [] H1) (hx:∀acc i ys H1,R acc i ys H1->it H1)
  (hs:∀acc i ys H1,i<m->ys.length<=i->H acc=none->R acc i ys H1->tt (some (itm i)::cs) H1 λb H2=>cond b (te (some (itm i)::cs) H2 λy H3=>H3 acc=some (.lst ys)/\R acc (i+1) (ys++[y]) (upd H3 acc (.lst (ys++[y])))) (R acc (i+1) ys H2))
  (hd:∀acc ys H1,H acc=none->R acc m ys H1->Q (.ref acc) H1):Cmp K it itm m cs tt te H Q
inductive CmpL(K:Fg)(a:Addr)(cs:St)(tt:TT)(te:TE)(H:Hp)(Q:VK):Prop where
 | l (xs:List V) (h:SqL K H a xs) (k:Cmp K (λH=>SqL K H a xs) (λi=>(xs[i]?).getD .non) xs.length cs tt te H Q):CmpL K a cs tt te H Q
inductive CmpT(K:Fg)(a:Addr)(cs:St)(tt:TT)(te:TE)(H:Hp)(Q:VK):Prop where
 | t (xs:List V) (h:SqT K H a xs) (k:Cmp K (λH=>SqT K H a xs) (λi=>(xs[i]?).getD .non) xs.length cs tt te H Q):CmpT K a cs tt te H Q
def Nb(K:Fg)(kd:Nat)(x:V)(cs:St)(tt:TT)(te:TE)(H:Hp)(Q:VK):Prop:=match kd,x with
 | 0,.int j=>Cnd (RK j) (Cmp K (λ_=>True) (λi=>.int (i:Int)) j.toNat cs tt te H Q)
 | 1,.ref a=>CmpL K a cs tt te H Q
 | 2,.ref a=>CmpT K a cs tt te H Q
 | _,_=>False
def WE:List Nat->St->St
 | [],_=>[]
 | j::r,σ=>(σ[j]?).getD none::WE r σ
mutual
noncomputable def E(n:En):C->TE
 | .v i=>λσ H Q=>Pc σ i λx=>Q x H
 | .k x=>λ_ H Q=>Q x H
 | .bin op a b=>λσ H Q=>E n a σ H λx H1=>E n b σ H1 λy H2=>rB n.K op x y H2 Q
 | .cmp op a b=>λσ H Q=>E n a σ H λx H1=>E n b σ H1 λy H2=>rC op x y H2 Q
 | .ix a b=>λσ H Q=>E n a σ H λx H1=>E n b σ H1 λy H2=>rX n.K x y H2 Q
 | .tup as=>λσ H Q=>Es n as σ H λxs H1=>cond (GX xs 1000) (NewT n.K xs H1 Q) False
 | .lst as=>λσ H Q=>Es n as σ H λxs H1=>cond (GX xs 1000) (NewL xs H1 Q) False
 | .call i as=>λσ H Q=>Es n as σ H λxs H1=>match n.fs[i]? with | some r=>r σ xs H1 Q | none=>False
 | .no a=>λσ H Q=>E n a σ H λx H1=>asB x H1 λb H2=>Q (.bl (!b)) H2
 | .an a b=>λσ H Q=>E n a σ H λx H1=>asB x H1 λc H2=>cond c (E n b σ H2 Q) (Q (.bl false) H2)
 | .oo a b=>λσ H Q=>E n a σ H λx H1=>asB x H1 λc H2=>cond c (Q (.bl true) H2) (E n b σ H2 Q)
 | .meth i o as=>λσ H Q=>E n o σ H λx H1=>match n.ms[i]? with | some m=>Cnd (m.ty x H1) (Es n as σ H1 λxs H2=>m.r x xs H2 Q) | none=>False
 | .nd i as=>λσ H Q=>Es n as σ H λxs H1=>match n.nr[i]? with | some r=>r xs H1 Q | none=>False
 | .iff c a b=>λσ H Q=>E n c σ H λx H1=>asB x H1 λt H2=>cond t (E n a σ H2 Q) (E n b σ H2 Q)
 | .comp kd it cap elt=>λσ H Q=>E n it σ H λx H1=>Nb n.K kd x (WE cap σ) (λ_ H Q=>Q true H) (E n elt) H1 Q
 | .compI kd it cap cnd elt=>λσ H Q=>E n it σ H λx H1=>Nb n.K kd x (WE cap σ) (λσ H Q=>E n cnd σ H λx H1=>asB x H1 Q) (E n elt) H1 Q
termination_by structural c=>c
noncomputable def Es(n:En):List C->TA
 | []=>λ_ H Q=>Q [] H
 | a::r=>λσ H Q=>E n a σ H λx H1=>Es n r σ H1 λxs H2=>Q (x::xs) H2
termination_by structural c=>c
end
theorem iteI{p:Prop} [Decidable p] {A B:Prop} (h1:p->A) (h2:¬p->B):cond (decide p) A B:=by
 by_cases h:p
 .rw [decide_eq_true h];exact h1 h
 .rw [decide_eq_false h];exact h2 h
end G3
namespace G3
open PySem L2
theorem Mv{i j:Int}{H:Hp}{Q:VK}(h:Pu i j H Q):0<j/\Q (.int (i%j)) H:=by
 unfold Pu at h;split at h
 .exact⟨by simp,h⟩
 .exact h.elim
theorem L0{i j:Int}{H:Hp}{Q:VK}(h:Pd i j H Q):SL i j/\Q (.int (i/j)) H:=by
 unfold Pd at h;split at h
 .rename_i n;cases G:Nat.ble (n+2) 1073741824 with
  | false=>rw [G]at h;exact h.elim
  | true=>
   rw [G]at h;have:=Nat.ble_eq.mp G;refine⟨⟨by simp,?_⟩,h⟩;show((n+1:Nat):Int)<_;lia
 .exact h.elim
theorem i2_of{x y:V}{ki:Int->Int->Prop}{ks:Str->Str->Prop}(h:i2 x y ki ks):(∃i j,x=.int i/\y=.int j/\ki i j)\/∃i j,x=.str i/\y=.str j/\ks i j:=by
 cases x with
 | int i=>cases y with
  | int j=>exact .inl ⟨i,j,rfl,rfl,h⟩
  | _=>exact False.elim h
 | str i=>cases y with
  | str j=>exact .inr ⟨i,j,rfl,rfl,h⟩
  | _=>exact False.elim h
 | _=>exact False.elim h
theorem JG{x y:V}{ki:Int->Int->Prop}(h:i2 x y ki λ_ _=>False):∃i j,x=.int i/\y=.int j/\ki i j:=by
 rcases i2_of h with h | ⟨_,_,_,_,h⟩
 .exact h
 .exact h.elim
theorem OL{y:V}{k:Prop}(h:iN y k):y=.non/\k:=by
 cases y with
 | non=>exact⟨rfl,h⟩
 | _=>exact False.elim h
theorem dI{i j:Int}:decide (V.int i=V.int j)=decide (i=j):=by simp
theorem dS{i j:Str}:decide (V.str i=V.str j)=decide (i=j):=by simp
section
variable{X:Cx}
theorem Tl(op:Operator):OpR X (binaryOp op) (rB X.K op):=by
 intro pins s σ H x y v u Q I G J h;cases op with
 | Add=>
  cases x with
  | ref a=>cases y with
   | ref b=>
    obtain⟨xs,ys,h1,h2,L,k⟩:=(show Cat X.K a b H Q from h);exact Xx pins s σ H _ _ v u Q I G J ⟨_,_,xs,ys,rfl,rfl,h1,h2,L,k⟩
   | _=>exact False.elim h
  | int i=>cases y with
   | int j=>exact Q6 pins s σ H _ _ v u Q I G J ⟨_,_,rfl,rfl,h⟩
   | _=>exact False.elim h
  | str i=>cases y<;>exact False.elim h
  | _=>exact False.elim h
 | Sub=>
  obtain⟨i,j,rfl,rfl,h⟩:=JG h;exact YW pins s σ H _ _ v u Q I G J ⟨_,_,rfl,rfl,h⟩
 | Mult=>
  obtain⟨i,j,rfl,rfl,h⟩:=JG h;exact Z8 pins s σ H _ _ v u Q I G J ⟨_,_,rfl,rfl,h.h,h.k⟩
 | Mod=>
  obtain⟨i,j,rfl,rfl,h⟩:=JG h;exact Zb pins s σ H _ _ v u Q I G J ⟨_,_,rfl,rfl,(Mv h).1,(Mv h).2⟩
 | FloorDiv=>
  obtain⟨i,j,rfl,rfl,h⟩:=JG h;exact Zu pins s σ H _ _ v u Q I G J ⟨_,_,rfl,rfl,(L0 h).1,(L0 h).2⟩
 | _=>exact False.elim h
theorem R4(op:CmpOp):OpR X (compareOp op) (rC op):=by
 intro pins s σ H x y v u Q I G J h;cases op with
 | Eq=>
  rcases i2_of h with⟨i,j,rfl,rfl,h⟩ | ⟨i,j,rfl,rfl,h⟩
  .exact Za pins s σ H _ _ v u Q I G J ⟨rfl,by rw [dI];exact h⟩
  .exact Za pins s σ H _ _ v u Q I G J ⟨rfl,by rw [dS];exact h⟩
 | NotEq=>
  rcases i2_of h with⟨i,j,rfl,rfl,h⟩ | ⟨i,j,rfl,rfl,h⟩
  .exact Ye pins s σ H _ _ v u Q I G J ⟨rfl,by rw [dI];exact h⟩
  .exact Ye pins s σ H _ _ v u Q I G J ⟨rfl,by rw [dS];exact h⟩
 | Lt=>
  rcases i2_of h with⟨i,j,rfl,rfl,h⟩ | ⟨i,j,rfl,rfl,h⟩
  .exact GD pins s σ H _ _ v u Q I G J ⟨_,_,rfl,rfl,h⟩
  .exact GU pins s σ H _ _ v u Q I G J ⟨_,_,rfl,rfl,h⟩
 | LtE=>
  obtain⟨i,j,rfl,rfl,h⟩:=JG h;exact Sb pins s σ H _ _ v u Q I G J ⟨_,_,rfl,rfl,h⟩
 | Gt=>
  obtain⟨i,j,rfl,rfl,h⟩:=JG h;exact Gd pins s σ H _ _ v u Q I G J ⟨_,_,rfl,rfl,h⟩
 | GtE=>
  obtain⟨i,j,rfl,rfl,h⟩:=JG h;exact Rq pins s σ H _ _ v u Q I G J ⟨_,_,rfl,rfl,h⟩
 | Is=>
  obtain⟨rfl,h⟩:=OL h;refine PD pins s σ H _ _ v u Q I G J ⟨rfl,?_⟩;cases x<;>exact h
 | IsNot=>
  obtain⟨rfl,h⟩:=OL h;refine Od pins s σ H _ _ v u Q I G J ⟨rfl,?_⟩;cases x<;>exact h
 | _=>exact False.elim h
theorem ix_X:IxR X (rX X.K):=by
 intro value G pins s σ H x y v u Q I M U h Y;unfold rX at h;split at h
 .cases h with
  | t xs w J L k=>exact Qj value G pins s σ H _ _ v u Q I M U ⟨_,xs,_,w,rfl,rfl,J,L,k⟩ Y
  | l xs w J L k=>exact Qw value G pins s σ H _ _ v u Q I M U ⟨_,xs,_,w,rfl,rfl,J,L,k⟩ Y
 .exact h.elim
def ord:Expr->Bool
 | .Starred _ _=>false
 | .Slice _ _ _ _=>false
 | .Set _ _ _=>false
 | _=>true
def osw:Expr->Bool
 | .ListComp _ _ _ _=>false
 | .SetComp _ _ _ _=>false
 | .DictComp _ _ _ _ _=>false
 | _=>true
def tst:Expr->Bool
 | .UnaryOp .Not _ _=>false
 | .BoolOp _ _ _=>false
 | .IfExp _ _ _ _=>false
 | .Compare _ _ _ _=>false
 | _=>true
theorem ZB{e:Expr}{es:List Expr}{env:Env}(h:ord e=true):starEach (e::es) env=(false,eval e env)::starEach es env:=by
 cases e<;>first | rfl | exact absurd (show false=true from h) Bool.false_ne_true
theorem WO{e:Expr}{t:Option Expr}{l:Nat}{env:Env}(h:osw e=true):swapsWith e t l env=pure false:=by
 cases e<;>first | rfl | exact absurd (show false=true from h) Bool.false_ne_true
theorem ord_ix{e:Expr}(h:ord e=true):Gw e:=by
 cases e<;>first | exact λ_ _=>rfl | exact absurd (show false=true from h) Bool.false_ne_true
theorem Ys{e:Expr}{env:Env}(h:ord e=true)(x:Value):foldedSetIterable e env x=pure x:=by
 cases e<;>first | rfl | exact absurd (show false=true from h) Bool.false_ne_true
theorem Lf{e:Expr}{env:Env}(h:tst e=true)(wh:Sem Value):isTrue e env wh=(do let v <-wh;standAt e.pos;holding [v] (truthy v)):=by
 cases e<;>first | rfl | exact absurd (show false=true from h) Bool.false_ne_true | (rename_i op _ _;cases op<;>first | rfl | exact absurd (show false=true from h) Bool.false_ne_true)
theorem Um{es:List Expr}{pos:Pos}{env:Env}(h:es.all ord=true):(backTo pos (starEach es env)).any (·.1)=false:=by
 induction es with
 | nil=>rfl
 | cons e es G=>
  rw [List.all_cons,Bool.and_eq_true]at h;rw [ZB h.1];show(false||(backTo pos (starEach es env)).any (·.1))=false;rw [G h.2];rfl
structure CallOk(X:Cx)(x:Str)(r:Rel):Prop where
 ok:∀(p pos:Pos)(e:Expr)(es:List Expr)(t:TA),PA X (e::es) t->Gl X x->(42:)=false->starEach (e::es) X.env=(false,eval e X.env)::starEach es X.env->(52:).any (·.1)=false->PE X (.Call (.Name x p) (e::es) [] pos) (λσ H Q=>t σ H λvs H1=>r σ vs H1 Q)
theorem CallOk.fn{k k':Nat}{x:Str}{ps:List Str}{sp:Sp}(F:Fn X.prog X.w X.K X.mg X.base k x ps sp)(hr:Room k' X.A)(hk:k<=k':=by decide):CallOk X x (λ_ vs H Q=>sp vs H Q E0):=
 ⟨λp pos e es t G J L M hp=>by
  have:=Qp (p:=p) (pos:=pos) F hr G hk J L M hp;intro pins s σ H Q I h;exact this pins s σ H Q I (by
   show t σ H λvs H1=>sp (vs++[]) H1 Q E0
   simpa only [List.append_nil]using h)⟩
structure MethOk(X:Cx)(m:Str)(q:Mr):Prop where
 ok:∀(o e:Expr)(es:List Expr)(to:TE)(t:TA)(ap cp:Pos),PE X o to->PA X (e::es) t->attributeBase o m X.env (eval o X.env)=eval o X.env->((e::es).all ord)=true->(e::es).length<20->(ap.endLine==cp.line)=true->PE X (.Call (.Attribute o m ap) (e::es) [] cp) (λσ H Q=>to σ H λx H1=>q.ty x H1/\t σ H1 λvs H2=>q.r x vs H2 Q)
theorem O9{es:List Expr}{cp:Pos}{env:Env}(h:es.all ord=true)(hl:es.length<20):((backTo cp (starEach es env)).all (λx=>!x.1)&&(backToKw cp (keywordEach [] env)).all (λx=>x.1.isSome)
 &&decide (es.length+([]:List Keyword).length+(if([]:List Keyword).isEmpty then 0 else 1)<30))=true:=by
 have h1:(backTo cp (starEach es env)).all (λx=>!x.1)=true:=by
  have:=Um (pos:=cp) (env:=env) h;exact List.all_eq_true.mpr λx G=>by
   have:=List.any_eq_false.mp this x G
   simpa using this
 rw [h1];have h2:decide (es.length+([]:List Keyword).length+(if([]:List Keyword).isEmpty then 0 else 1)<30)=true:=by simp;lia
 rw [h2];rfl
theorem MethOk.bm{T id:String}{name:Str}{r:V->List V->Hp->VK->Prop}(pa:PlainAttrs T)(slot:Slot T name id)(hty:typeOf (.builtin id)=pure (.type "method_descriptor"))(hm:MtR X id r):MethOk X name ⟨tyV X.K T,r⟩:=
 ⟨λo e es to t Y Z J L M h U G=>by
  rw [List.all_cons,Bool.and_eq_true]at h;exact Yp pa slot hty hm J L M (O9 (by rw [List.all_cons,Bool.and_eq_true];exact h) U) G (ZB h.1) (Um h.2)⟩
inductive PEs(X:Cx):List Expr->List TE->Prop where
 | nil:PEs X [] []
 | cons {e:Expr} {es:List Expr} {t:TE} {ts:List TE}:PE X e t->PEs X es ts->PEs X (e::es) (t::ts)
def VQ:List TE->TA
 | []=>λ_ H Q=>Q [] H
 | t::r=>λσ H Q=>t σ H λx H1=>VQ r σ H1 λxs H2=>Q (x::xs) H2
structure NodeOk(X:Cx)(sh:Expr->Option (List Expr))(r:List V->Hp->VK->Prop):Prop where
 ok:∀(e:Expr)(es:List Expr)(ts:List TE),sh e=some es->PEs X es ts->PE X e (λσ H Q=>VQ ts σ H λvs H1=>r vs H1 Q)
 okT:∀(e:Expr)(es:List Expr)(ts:List TE),sh e=some es->PEs X es ts->PT X e (λσ H Q=>VQ ts σ H λvs H1=>r vs H1 λx H2=>asB x H2 Q)
end
end G3
namespace G3
open PySem L2
def up(t:TE):TE:=λσ H Q=>∃Q0:VK,t σ H Q0/\∀x H',Q0 x H'->Q x H'
def upA(t:TA):TA:=λσ H Q=>∃Q0:List V->Hp->Prop,t σ H Q0/\∀x H',Q0 x H'->Q x H'
def upT(t:TT):TT:=λσ H Q=>∃Q0:Bool->Hp->Prop,t σ H Q0/\∀x H',Q0 x H'->Q x H'
def upR(r:R2):R2:=λx y H Q=>∃Q0:VK,r x y H Q0/\∀x H',Q0 x H'->Q x H'
theorem pe_up{X:Cx}{e:Expr}{t:TE}(h:PE X e t):PE X e (up t):=λpins s σ H Q I ⟨G,J,k⟩=>thn (h pins s σ H G I J) λv Y ⟨x,H1,L,M,U⟩=>⟨x,H1,L,M,k _ _ U⟩
theorem OZ{X:Cx}{es:List Expr}{t:TA}(h:PA X es t):PA X es (upA t):=λpos pins s σ H Q I ⟨G,J,k⟩=>thn (h pos pins s σ H G I J) λv Y ⟨x,H1,L,M,U⟩=>⟨x,H1,L,M,k _ _ U⟩
theorem W1{X:Cx}{e:Expr}{t:TT}(h:PT X e t):PT X e (upT t):=λpins s σ H Q I ⟨G,J,k⟩=>thn (h pins s σ H G I J) λv U ⟨H1,L,M⟩=>⟨H1,L,k _ _ M⟩
theorem L5{X:Cx}{f:Value->Value->Sem Value}{r:R2}(h:OpR X f r):OpR X f (upR r):=λpins s σ H x y v u Q I G J ⟨L,M,k⟩=>thn (h pins s σ H x y v u L I G J M) λv s1 ⟨x,H1,U,Y,Z⟩=>⟨x,H1,U,Y,k _ _ Z⟩
theorem OU{X:Cx}{es:List Expr}{t:TT}(h:PF X es t):PF X es (upT t):=λpins s σ H Q I ⟨G,J,k⟩=>thn (h pins s σ H G I J) λv U ⟨H1,L,M⟩=>⟨H1,L,k _ _ M⟩
theorem pe_mono{X:Cx}{e:Expr}{t u:TE}(h:PE X e t)(k:∀σ H Q,u σ H Q->t σ H Q):PE X e u:=λpins s σ H Q I q=>h pins s σ H Q I (k σ H Q q)
theorem YF{X:Cx}{e:Expr}{t u:TT}(h:PT X e t)(k:∀σ H Q,u σ H Q->t σ H Q):PT X e u:=λpins s σ H Q I q=>h pins s σ H Q I (k σ H Q q)
section
variable{K:Fg}{m:Nat}{cs:St}{tt:TT}{te:TE}{H:Hp}{Q:VK}{acc:Addr}{itm:Nat->V}
theorem Jm{R:Nat->List V->Hp->Prop}{i n:Nat}{ys:List V}{H1:Hp}{x:V}(hn:i<n)(hz:n<=4000)(ha:H acc=none)(hm:∀acc i ys l H1 H2,R i ys H1->H1 acc=some (.lst l)->H acc=none->(∀a o,a≠acc->H1 a=some o->H2 a=some o)->(∀a xs,SqT K H1 a xs->SqT K H2 a xs)->R i ys H2)
 (hy:H1 acc=some (.lst ys)) (hl:ys.length<=i) (g:Same H H1) (q:tt (some x::cs) H1 λb H2=>cond b (te (some x::cs) H2 λy H3=>Same H1 H3/\R (i+1) (ys++[y]) H3) (Same H1 H2/\R (i+1) ys H2)):
 upT tt (some x::cs) H1 (JN n (57:) acc i (up te) (some x::cs)):=by
 refine⟨_,q,λb H2 q=>?_⟩;cases b with
 | true=>
  refine QU ⟨_,q,λy H3 q=>?_⟩;have G:=q.1 _ _ hy;refine Qv (ys:=ys) hn G (3:) ⟨Qb,λz u e=>?_,hm acc _ _ ys H3 _ q.2 G ha (λa o J e=>by rw [Qh J];exact e) (λa xs h=>SqT.put h G),by rw [List.length_append];show ys.length+1<=_;lia⟩;rw [Qh (Qi e ha)];exact q.1 _ _ (g _ _ e)
 | false=>exact Zc (ZI hn ⟨q.1 _ _ hy,g.trans q.1,q.2,by lia⟩)
theorem Uz{R:Addr->Nat->List V->Hp->Prop}{i n:Nat}{ys:List V}{H1:Hp}{x:V}(hn:i<n)(hz:n<=4000)(hl:ys.length<=i)(q:tt (some x::cs) H1 λb H2=>cond b (te (some x::cs) H2 λy H3=>H3 acc=some (.lst ys)/\R acc (i+1) (ys++[y]) (upd H3 acc (.lst (ys++[y])))) (R acc (i+1) ys H2)):
 upT tt (some x::cs) H1 (JN n (λi ys H'=>R acc i ys H'/\ys.length<=i) acc i (up te) (some x::cs)):=by
 refine⟨_,q,λb H2 q=>?_⟩;cases b with
 | true=>exact QU ⟨_,q,λy H3 q=>Qv (ys:=ys) hn q.1 (3:) ⟨q.2,by rw [List.length_append];show ys.length+1<=_;lia⟩⟩
 | false=>exact Zc (ZI hn ⟨q,by lia⟩)
theorem Ls(h:Cmp K (λ_=>True) (λi=>.int (i:Int)) m cs tt te H Q)(ha:H acc=none):Z2 (Itr 0 m) 1 cs (QP 0) (upT tt) (up te) H acc (λH'=>Q (.ref acc) H'):=by
 cases h with
 | s R G U J L M=>
  refine Yk (57:) ⟨Qb,Qe ha _,G _ (Qe ha _),Nat.zero_le _⟩ (λi ys H1 hi p=>?_) λys H1 p=>M acc ys H1 p.2.1 p.1 p.2.2.1;rw [Int.zero_add];exact Jm hi J ha U p.1 p.2.2.2 p.2.1 (L i ys H1 hi p.2.2.2 p.2.1 p.2.2.1)
 | m R J G Y L M=>
  refine Yk (λi ys H'=>R acc i ys H'/\ys.length<=i) ⟨G acc _ ha (Qe ha _) Qb,Nat.zero_le _⟩ (λi ys H1 hi p=>?_) λys H1 p=>M acc ys H1 ha p.1;rw [Int.zero_add];exact Uz hi J p.2 (L acc i ys H1 hi p.2 ha p.1)
theorem LD{a:Addr}{xs:List V}(hx:SqL K H a xs)(h:Cmp K (λH=>SqL K H a xs) (λi=>(xs[i]?).getD .non) xs.length cs tt te H Q)(ha:H acc=none):Z2 (Itl K a) 1 cs (QP 0) (upT tt) (up te) H acc (λH'=>Q (.ref acc) H'):=by
 cases h with
 | s R G Y J L M=>
  refine YB (xs:=xs) (57:) ⟨Qb,Qe ha _,G _ (Qe ha _),Nat.zero_le _⟩ (λi ys H1 _ p=>p.2.1.seq hx) (λi x ys H1 hi e p=>?_) λys H1 p=>M acc ys H1 p.2.1 p.1 p.2.2.1;have q:=L i ys H1 hi p.2.2.2 p.2.1 p.2.2.1;rw [e]at q;exact Jm hi J ha Y p.1 p.2.2.2 p.2.1 q
 | m R J G U L M=>
  refine YB (xs:=xs) (λi ys H'=>R acc i ys H'/\ys.length<=i) ⟨G acc _ ha (Qe ha _) Qb,Nat.zero_le _⟩ (λi ys H1 _ p=>U acc i ys H1 p.1) (λi x ys H1 hi e p=>?_) λys H1 p=>M acc ys H1 ha p.1;have q:=L acc i ys H1 hi p.2 ha p.1;rw [e]at q;exact Uz hi J p.2 q
theorem OC{a:Addr}{xs:List V}(hx:SqT K H a xs)(h:Cmp K (λH=>SqT K H a xs) (λi=>(xs[i]?).getD .non) xs.length cs tt te H Q)(ha:H acc=none):Z2 (Itt K a) 1 cs (QP 0) (upT tt) (up te) H acc (λH'=>Q (.ref acc) H'):=by
 cases h with
 | s R G Y J L M=>
  refine Yn (xs:=xs) (57:) ⟨Qb,Qe ha _,G _ (Qe ha _),Nat.zero_le _⟩ (λi ys H1 _ p=>p.2.1.seqT hx) (λi x ys H1 hi e p=>?_) λys H1 p=>M acc ys H1 p.2.1 p.1 p.2.2.1;have q:=L i ys H1 hi p.2.2.2 p.2.1 p.2.2.1;rw [e]at q;exact Jm hi J ha Y p.1 p.2.2.2 p.2.1 q
 | m R J G U L M=>
  refine Yn (xs:=xs) (λi ys H'=>R acc i ys H'/\ys.length<=i) ⟨G acc _ ha (Qe ha _) Qb,Nat.zero_le _⟩ (λi ys H1 _ p=>U acc i ys H1 p.1) (λi x ys H1 hi e p=>?_) λys H1 p=>M acc ys H1 ha p.1;have q:=L acc i ys H1 hi p.2 ha p.1;rw [e]at q;exact Uz hi J p.2 q
end
end G3
namespace G3
open PySem L2
structure Tb where
 N:List Str
 sc:Scope
 fn:List Str
 mt:List Str
 nk:List (Expr->Option (List Expr))
 sk:List (Stmt->Option (List Expr))
def PH(sc:Scope)(x:Str):Bool:=match sc.names.lookup x with
 | some .local=>true
 | some .cell=>true
 | some .free=>true
 | _=>false
def Pg(sc:Scope)(x:Str):Bool:=match sc.names.lookup x with
 | some .local=>true
 | some .cell=>true
 | _=>false
def glB(sc:Scope)(x:Str):Bool:=match sc.names.lookup x with
 | some .globalImplicit=>true
 | _=>false
def ndB(x:Str):Bool:=!(42:)&& !(x==("__classdict__":Str))
def Re:Const->V->Bool
 | .int i,.int j=>decide (i=j)
 | .str i,.str j=>decide (i=j)
 | .bool i,.bl j=>decide (i=j)
 | .none,.non=>true
 | _,_=>false
def O1(scope sc:Scope):Scope:={ scope with names:=scope.names.map λ(n,k)=>if(k==NameKind.free&&sc.kind== .function&&sc.names.lookup n==some .cell)then(n,NameKind.cell)else(n,k) }
def inn(T:Tb)(x:Str)(scope:Scope):Tb:=⟨x::Zd scope.names,O1 scope T.sc,T.fn,T.mt,T.nk,T.sk⟩
def UC(T:Tb)(cap:List Nat)(x:Str)(scope:Scope):Bool:=
 decide (scope.kind=.function)&&decide (T.sc.kind=.function)&&decide (cap.map (λj=>T.N[j]?)=(Zd scope.names).map some)&&decide (∀z∈scope.names,z.2≠.cell)&&decide (∀y∈scope.names,y.2=.local->scope.names.lookup y.1=some .local)
  &&decide (scope.names.lookup x=some .local)&&decide ((x::Zd scope.names).Nodup)&&decide (∀y∈Zd scope.names,scope.names.lookup y=some .free)&&decide (∀y∈Zd scope.names,T.sc.names.lookup y=some .cell)
def OW:Expr->Bool
 | .Call _ _ _ _=>false
 | _=>true
structure Vw where
 t:Nat
 x:Str
 a:Expr
 b:Expr
 c:Expr
 l:List Expr
 p:Pos
 o:Operator
 q:CmpOp
 n:Const
 k:Nat
 s:Scope
def Vw.z:Vw:=⟨0,Str.empty,.Name Str.empty default,.Name Str.empty default,.Name Str.empty default,[],default,.Add,.Eq,.none,0,default⟩
def Tw(a:Expr):List CmpOp->List Expr->Vw
 | [q],[b]=>{ Vw.z with t:=4,a:=a,q:=q,b:=b }
 | _,_=>Vw.z
def SK(f:Expr):List Expr->List Keyword->Vw
 | a::l,[]=>match f with
  | .Name x p=>{ Vw.z with t:=8,x:=x,p:=p,a:=a,l:=l }
  | .Attribute b x p=>{ Vw.z with t:=15,b:=b,x:=x,p:=p,a:=a,l:=l }
  | _=>Vw.z
 | _,_=>Vw.z
def TL(a:Expr):UnaryOp->Vw
 | .Not=>{ Vw.z with t:=9,a:=a }
 | _=>Vw.z
def RV:BoolOp->List Expr->Vw
 | .And,a::b::l=>{ Vw.z with t:=10,a:=a,b:=b,l:=l }
 | .Or,a::b::l=>{ Vw.z with t:=11,a:=a,b:=b,l:=l }
 | _,_=>Vw.z
def vLc(a b:Expr)(s:Scope)(x:Str)(p:Pos):List Expr->Vw
 | []=>{ Vw.z with t:=13,a:=a,x:=x,p:=p,b:=b,s:=s }
 | [c]=>{ Vw.z with t:=14,a:=a,x:=x,p:=p,b:=b,c:=c,s:=s }
 | _=>Vw.z
def Tq(a:Expr)(s:Scope)(b:Expr)(ifs:List Expr)(g:Expr):Int->Vw
 | .ofNat 0=>match g with
  | .Name x p=>vLc a b s x p ifs
  | _=>Vw.z
 | _=>Vw.z
def vLs(a:Expr)(s:Scope):List Comprehension->Vw
 | [g]=>Tq a s g.iter g.ifs g.target g.is_async
 | _=>Vw.z
def vw:Expr->Vw
 | .Name x _=>{ Vw.z with t:=1,x:=x }
 | .Constant n k _=>{ Vw.z with t:=2,n:=n,k:=k }
 | .BinOp a o b _=>{ Vw.z with t:=3,a:=a,o:=o,b:=b }
 | .Compare a q b _=>Tw a q b
 | .Subscript a b _=>{ Vw.z with t:=5,a:=a,b:=b }
 | .Tuple l k _=>{ Vw.z with t:=6,l:=l,k:=k }
 | .List l _=>{ Vw.z with t:=7,l:=l }
 | .Call f l k _=>SK f l k
 | .UnaryOp o a _=>TL a o
 | .BoolOp o l _=>RV o l
 | .IfExp a b c _=>{ Vw.z with t:=12,a:=a,b:=b,c:=c }
 | .ListComp a g s _=>vLs a s g
 | _=>Vw.z
def reb(v:Vw)(p:Pos):Nat->Expr
 | 1=>.Name v.x p
 | 2=>.Constant v.n v.k p
 | 3=>.BinOp v.a v.o v.b p
 | 4=>.Compare v.a [v.q] [v.b] p
 | 5=>.Subscript v.a v.b p
 | 6=>.Tuple v.l v.k p
 | 7=>.List v.l p
 | 8=>.Call (.Name v.x v.p) (v.a::v.l) [] p
 | 9=>.UnaryOp .Not v.a p
 | 10=>.BoolOp .And (v.a::v.b::v.l) p
 | 11=>.BoolOp .Or (v.a::v.b::v.l) p
 | 12=>.IfExp v.a v.b v.c p
 | 13=>.ListComp v.a [⟨.Name v.x v.p,v.b,[],0⟩] v.s p
 | 14=>.ListComp v.a [⟨.Name v.x v.p,v.b,[v.c],0⟩] v.s p
 | 15=>.Call (.Attribute v.b v.x v.p) (v.a::v.l) [] p
 | _=>.Name v.x p
def Vok(v:Vw)(e:Expr):Prop:=v.t=0\/reb v e.pos v.t=e
theorem vw_eq(e:Expr):Vok (vw e) e:=by
 cases e with
 | Compare a q b p=>
  rcases q with _ | ⟨_,_ | ⟨_,_⟩⟩
  .exact .inl rfl
  .rcases b with _ | ⟨_,_ | ⟨_,_⟩⟩<;>first | exact .inr rfl | exact .inl rfl
  .exact .inl rfl
 | Call f l k p=>
  cases l with
  | nil=>exact .inl rfl
  | cons a l=>cases k with
   | nil=>cases f<;>first | exact .inr rfl | exact .inl rfl
   | cons _ _=>exact .inl rfl
 | UnaryOp o a p=>cases o<;>first | exact .inr rfl | exact .inl rfl
 | BoolOp o l p=>cases o<;>rcases l with _ | ⟨_,_ | ⟨_,_⟩⟩<;>first | exact .inr rfl | exact .inl rfl
 | ListComp a g s p=>
  rcases g with _ | ⟨⟨g,b,l,i⟩,_ | ⟨_,_⟩⟩
  .exact .inl rfl
  .rcases i with(_ | i) | i
   .cases g with
    | Name x q=>rcases l with _ | ⟨_,_ | ⟨_,_⟩⟩<;>first | exact .inr rfl | exact .inl rfl
    | _=>exact .inl rfl
   .exact .inl rfl
   .exact .inl rfl
  .exact .inl rfl
 | _=>first | exact .inr rfl | exact .inl rfl
def is(e:Expr)(n:Nat):Bool:=Nat.beq (vw e).t n
theorem rb{P:Expr->Prop}{e:Expr}{n:Nat}(h:is e (n+1)=true)(k:P (reb (vw e) e.pos (n+1))):P e:=by
 have G:(vw e).t=n+1:=Nat.eq_of_beq_eq_true h;rcases vw_eq e with h0 | h0
 .rw [h0]at G;cases G
 .rw [G]at h0;exact Eq.subst (motive:=P) h0 k
def Li(kd:Nat)(f:Expr->Bool)(T:Tb)(b:Expr):Bool:=match kd with
 | 0=>is b 8&&(decide ((vw b).x="range")&&glB T.sc (vw b).x&&(vw b).l.isEmpty&&f (vw b).a&&ord (vw b).a)
 | 1=>f b&&ord b
 | 2=>f b&&ord b
 | _=>false
def rest(op:BoolOp)(v:Vw)(p:Pos):Expr:=match v.l with
 | []=>v.b
 | _::_=>.BoolOp op (v.b::v.l) p
mutual
noncomputable def chk:C->Tb->Expr->Bool
 | .v i,T,e=>is e 1&&(decide (T.N[i]?=some (vw e).x)&&PH T.sc (vw e).x&&ndB (vw e).x)
 | .k x,_,e=>is e 2&&Re (vw e).n x
 | .bin op a b,T,e=>is e 3&&(decide (op=(vw e).o)&&chk a T (vw e).a&&chk b T (vw e).b)
 | .cmp op a b,T,e=>is e 4&&(decide (op=(vw e).q)&&chk a T (vw e).a&&chk b T (vw e).b&& !(behindInMarks op (vw e).b))
 | .ix a b,T,e=>is e 5&&(chk a T (vw e).a&&chk b T (vw e).b&&ord (vw e).b)
 | .tup as,T,e=>is e 6&&YS as T (vw e).l
 | .lst as,T,e=>is e 7&&YS as T (vw e).l
 | .call i as,T,e=>is e 8&&(decide (T.fn[i]?=some (vw e).x)&&glB T.sc (vw e).x&&ndB (vw e).x&&YS as T ((vw e).a::(vw e).l))
 | .no a,T,e=>is e 9&&chk a T (vw e).a
 | .an a b,T,e=>is e 10&&(chk a T (vw e).a&&chk b T (rest .And (vw e) e.pos))
 | .oo a b,T,e=>is e 11&&(chk a T (vw e).a&&chk b T (rest .Or (vw e) e.pos))
 | .meth i o as,T,e=>is e 15&&(decide (T.mt[i]?=some (vw e).x)&&chk o T (vw e).b&&OW (vw e).b&&YS as T ((vw e).a::(vw e).l)&&Nat.ble ((vw e).a::(vw e).l).length 19&&((vw e).p.endLine==e.pos.line))
 | .nd i as,T,e=>match T.nk[i]? with
  | some sh=>match sh e with
   | some es=>YS as T es
   | none=>false
  | none=>false
 | .iff c a b,T,e=>is e 12&&(chk c T (vw e).a&&chk a T (vw e).b&&chk b T (vw e).c)
 | .comp kd it cap elt,T,e=>is e 13&&(UC T cap (vw e).x (vw e).s&&chk elt (inn T (vw e).x (vw e).s) (vw e).a&&Li kd (chk it T) T (vw e).b)
 | .compI kd it cap cnd elt,T,e=>is e 14&&(UC T cap (vw e).x (vw e).s&&chk elt (inn T (vw e).x (vw e).s) (vw e).a&&chk cnd (inn T (vw e).x (vw e).s) (vw e).c&&Li kd (chk it T) T (vw e).b)
termination_by structural c=>c
noncomputable def YS:List C->Tb->List Expr->Bool
 | [],_,es=>es.isEmpty
 | a::r,T,es=>match es with
  | e::es=>ord e&&chk a T e&&YS r T es
  | []=>false
termination_by structural c=>c
end
end G3
namespace G3
open PySem L2
theorem PP{sc:Scope}{x:Str}(h:PH sc x=true):Vis sc x:=by
 unfold PH at h;split at h
 .exact .inl (by assumption)
 .exact .inr (.inl (by assumption))
 .exact .inr (.inr (by assumption))
 .cases h
theorem MR{sc:Scope}{x:Str}(h:Pg sc x=true):Loc sc x:=by
 unfold Pg at h;split at h
 .exact .inl (by assumption)
 .exact .inr (by assumption)
 .cases h
theorem LU{X:Cx}{x:Str}(h:glB X.env.scope x=true):Gl X x:=by
 unfold glB at h;split at h
 .assumption
 .cases h
theorem Nj{x:Str}(h:ndB x=true):(42:)=false/\(x==("__classdict__":Str))=false:=by
 unfold ndB at h;rw [Bool.and_eq_true]at h;exact⟨by simpa using h.1,by simpa using h.2⟩
theorem X4{k:V->Prop}:∀{σ:St}{i:Nat},Pc σ i k->∃v,σ[i]?=some (some v)/\k v
 | [],_,h=>h.elim
 | none::_,0,h=>h.elim
 | some x::_,0,h=>⟨x,rfl,h⟩
 | none::r,n+1,h=>by rw [List.getElem?_cons_succ];exact X4 (σ:=r) (i:=n) h
 | some _::r,n+1,h=>by rw [List.getElem?_cons_succ];exact X4 (σ:=r) (i:=n) h
theorem ZS{x:V}:∀{σ:St}{i:Nat}{k:St->Prop},Xu σ i x k->k (σ.set i (some x))
 | [],_,_,h=>h.elim
 | _::_,0,_,h=>h
 | a::r,n+1,k,h=>ZS (σ:=r) (i:=n) (k:=λG=>k (a::G)) h
theorem UA{x:V}{H:Hp}{Q:Bool->Hp->Prop}(h:asB x H Q):∃b,x=.bl b/\Q b H:=by
 unfold asB at h;split at h
 .exact⟨_,rfl,h⟩
 .exact h.elim
theorem Lc{c:Bool}{A B:Prop}(h:cond c A B):if c=true then A else B:=by
 cases c with
 | true=>exact h
 | false=>exact h
theorem XI:∀{xs:List V}{n:Nat},GX xs n=true->xs.length<=n
 | [],_,_=>Nat.zero_le _
 | _::_,0,h=>nomatch h
 | _::r,n+1,h=>Nat.succ_le_succ (XI (xs:=r) h)
theorem Mn{xs:List V}{n:Nat}{A:Prop}(h:cond (GX xs n) A False):xs.length<=n/\A:=by
 cases G:GX xs n with
 | false=>rw [G]at h;exact h.elim
 | true=>rw [G]at h;exact⟨XI G,h⟩
theorem XE{T:Tb}:∀(as:List C)(es:List Expr),YS as T es=true->es.all ord=true
 | [],[],_=>rfl
 | [],_::_,h=>nomatch h
 | _::_,[],h=>nomatch h
 | a::r,e::es,h=>by
  have h:(ord e&&chk a T e&&YS r T es)=true:=h;rw [Bool.and_eq_true,Bool.and_eq_true]at h;rw [List.all_cons,Bool.and_eq_true];exact⟨h.1.1,XE r _ h.2⟩
theorem Sy{X:Cx}{op:BoolOp}{es:List Expr}{pos:Pos}{t:TT}(h:PT X (.BoolOp op es pos) t):PW X (.BoolOp op es pos) t:=λ_ pins s σ H Q I q=>h pins s σ H Q I q
def ET(n:En)(c:C):TT:=λσ H Q=>E n c σ H λx H1=>asB x H1 Q
theorem XZ:∀{cap:List Nat}{σ:St},WE cap σ=Yx cap σ
 | [],_=>rfl
 | j::r,σ=>by rw [WE,XZ (cap:=r)];rfl
structure Fam(X X':Cx):Prop where
 p:X'.prog=X.prog
 w:X'.w=X.w
 K:X'.K=X.K
 m:X'.mg=X.mg
 b:X'.base=X.base
 A:X'.A=X.A
 c:X'.calm=X.calm
structure Fit(X:Cx)(T:Tb)(fs:List Rel)(ms:List Mr)(nr:List (56:)):Prop where
 hN:T.N=X.N
 hs:T.sc=X.env.scope
 hf:∀X':Cx,Fam X X'->∀(i:Nat) x,T.fn[i]?=some x->∃r,fs[i]?=some r/\CallOk X' x r
 hm:∀X':Cx,Fam X X'->∀(i:Nat) x,T.mt[i]?=some x->∃r,ms[i]?=some r/\MethOk X' x r
 hn:∀X':Cx,Fam X X'->∀(i:Nat) sh,T.nk[i]?=some sh->∃r,nr[i]?=some r/\NodeOk X' sh r
 ca:X.calm=true
 rg:X.mg "range"=none
theorem Fit.inn{X:Cx}{T:Tb}{fs:List Rel}{ms:List Mr}{nr:List (56:)}(F:Fit X T fs ms nr)(x:Str)(scope:Scope)(cl:List (Str×Addr))(C:Addr)(fp:List Addr)(s₀:Shared)(H₀:Hp):Fit (59:) (inn T x scope) fs ms nr:=
 ⟨rfl,by
  show O1 scope T.sc=relabel scope X.env;rw [F.hs];rfl,λG f=>F.hf G ⟨f.p,f.w,f.K,f.m,f.b,f.A,f.c⟩,λG f=>F.hm G ⟨f.p,f.w,f.K,f.m,f.b,f.A,f.c⟩,λG f=>F.hn G ⟨f.p,f.w,f.K,f.m,f.b,f.A,f.c⟩,F.ca,F.rg⟩
theorem VU{X:Cx}{T:Tb}{fs:List Rel}{ms:List Mr}{nr:List (56:)}(F:Fit X T fs ms nr){cap:List Nat}{x:Str}{scope:Scope}(h:UC T cap x scope=true)(has:∀y,X.env.scope.names.lookup y=some .cell->∃c,X.env.cells.lookup y=some c):∃cl,CompG X [x] (Zd scope.names) cap scope cl:=by
 unfold UC at h;simp only [Bool.and_eq_true,decide_eq_true_eq]at h;obtain⟨⟨⟨⟨⟨⟨⟨⟨h1,h2⟩,L⟩,U⟩,Y⟩,Z⟩,h7⟩,h8⟩,G⟩:=h;rw [F.hs]at h2 G;rw [F.hN]at L;obtain⟨cs,M⟩: ∃cs:List Addr,(Zd scope.names).map (λy=>X.env.cells.lookup y)=cs.map some:=by
  have:∀l:List Str,(∀y∈l,X.env.scope.names.lookup y=some .cell)->∃cs:List Addr,l.map (λy=>X.env.cells.lookup y)=cs.map some:=by
   intro l
   induction l with
   | nil=>exact λ_=>⟨[],rfl⟩
   | cons y r ih=>
    intro h;obtain⟨cs,e⟩:=ih λz J=>h z (List.mem_cons_of_mem _ J);obtain⟨c,ec⟩:=has y (h y List.mem_cons_self);exact⟨c::cs,by rw [List.map_cons,e,ec];rfl⟩
  exact this _ G
 exact⟨_,CompG.many (xs:=[x]) (caps:=Zd scope.names) (cap:=cap) (cs:=cs) h1 h2 rfl U Y (λz J=>by rw [List.mem_singleton.mp J];exact Z) h7 h8 (List.map_congr_left λy hy=>G y hy) M L⟩
theorem pvT{X:Cx}{e:Expr}{t:TE}(h:PE X e t)(ht:tst e=true):PE X e t/\PT X e (λσ H Q=>t σ H λx H1=>asB x H1 Q):=⟨h,YF (QS (pe_up h) (Lf ht)) λσ H Q q=>⟨_,q,λx H1 q=>UA q⟩⟩
theorem Xw{n:En}:∀(as:List C){σ:St}{H:Hp}{Q:List V->Hp->Prop},Es n as σ H Q↔VQ (as.map (E n)) σ H Q
 | [],σ,H,Q=>Iff.rfl
 | a::r,σ,H,Q=>by
  have:(λx H1=>Es n r σ H1 λxs H2=>Q (x::xs) H2)=λx H1=>VQ (r.map (E n)) σ H1 λxs H2=>Q (x::xs) H2:=by
   funext x H1
   exact propext (Xw r)
  show(E n a σ H λx H1=>Es n r σ H1 λxs H2=>Q (x::xs) H2)↔_;rw [this];exact Iff.rfl
theorem M8{α:Type}{l:List α}(h:l.isEmpty=true):l=[]:=by
 cases l with
 | nil=>rfl
 | cons _ _=>cases h
theorem MK{X:Cx}{op:BoolOp}{v:Vw}{p:Pos}{t:TE}(h:PE X (rest op v p) t):PE X (.BoolOp op (v.b::v.l) p) t:=by
 obtain⟨_,_,_,b,_,l,_,_,_,_,_,_⟩:=v;cases l with
 | nil=>exact VD h
 | cons _ _=>exact h
theorem Rc{X:Cx}{v:Vw}{p:Pos}{t:TT}(h:PT X (rest .And v p) t):PW X (.BoolOp .And (v.b::v.l) p) t:=by
 obtain⟨_,_,_,b,_,l,_,_,_,_,_,_⟩:=v;cases l with
 | nil=>exact pw_and1 h
 | cons _ _=>exact Sy h
theorem Ps{X:Cx}{v:Vw}{p:Pos}{t:TT}(h:PT X (rest .Or v p) t):PW X (.BoolOp .Or (v.b::v.l) p) t:=by
 obtain⟨_,_,_,b,_,l,_,_,_,_,_,_⟩:=v;cases l with
 | nil=>exact pw_or1 h
 | cons _ _=>exact Sy h
theorem b2{a b:Bool}(h:(a&&b)=true):a=true/\b=true:=by rwa [Bool.and_eq_true]at h
theorem Jp{K:Fg}{m:Nat}{cs:St}{tt:TT}{te:TE}{H:Hp}{Q Q':VK}{it:Hp->Prop}{itm:Nat->V}(h:Cmp K it itm m cs tt te H Q)(k:∀x H,Q x H->Q' x H):Cmp K it itm m cs tt te H Q':=by
 cases h with
 | s R G U J L M=>exact .s R G U J L λp ys H1 g e r=>k _ _ (M p ys H1 g e r)
 | m R J G Y L M=>exact .m R J G Y L λp ys H1 g r=>k _ _ (M p ys H1 g r)
def ItR(X:Cx)(kd:Nat)(tit:TE)(tg b:Expr):Prop:=∃wi:TI,PI X tg b wi/\(∀x,foldedSetIterable b X.env x=pure x)/\∀cap tt te σ H (Q Q':VK),(∀x H,Q x H->Q' x H)->(tit σ H λx H1=>Nb X.K kd x (WE cap σ) tt te H1 Q)->YT 1 wi cap (QP 0) (upT tt) (up te) σ H Q'
theorem OQ{X:Cx}{T:Tb}{fs:List Rel}{ms:List Mr}{nr:List (56:)}(F:Fit X T fs ms nr){kd:Nat}{f:Expr->Bool}{b tg:Expr}{tit:TE}(h:Li kd f T b=true)(hf:∀e,f e=true->PE X e tit):ItR X kd tit tg b:=by
 match kd,h with
 | 0,h=>
  obtain⟨h0,h⟩:=b2 (show(is b 8&&_)=true from h);obtain⟨h,G⟩:=b2 h;obtain⟨h,J⟩:=b2 h;obtain⟨h,z5⟩:=b2 h;obtain⟨U,Y⟩:=b2 h;rw [F.hs,of_decide_eq_true U]at Y;refine rb (P:=ItR X 0 tit tg) h0 ?_;show ItR X 0 tit tg (.Call (.Name (vw b).x (vw b).p) ((vw b).a::(vw b).l) [] b.pos);rw [of_decide_eq_true U,M8 z5];refine⟨_,QM (LU Y) F.rg (Qa (pe_up (hf _ J)) Qc (ZB G)) (ZB G),λ_=>rfl,λcap tt te σ H Q Z k q=>⟨_,q,λx H1 q=>?_⟩⟩;cases x with
  | int j=>
   obtain⟨hr,q⟩:=q;rw [XZ]at q;exact⟨j,rfl,hr.1,hr.2,λacc L=>Ls (Jp q k) L⟩
  | _=>exact False.elim q
 | 1,h=>
  obtain⟨J,G⟩:=b2 h;refine⟨_,QG (pe_up (hf _ J)),Ys G,λcap tt te σ H Q Z k q=>⟨_,q,λx H1 q=>?_⟩⟩;cases x with
  | ref a=>
   cases q with
   | l xs M q=>
    rw [XZ]at q;exact⟨a,rfl,⟨xs,M⟩,λacc L=>LD M (Jp q k) L⟩
  | _=>exact False.elim q
 | 2,h=>
  obtain⟨J,G⟩:=b2 h;refine⟨_,Yl (pe_up (hf _ J)),Ys G,λcap tt te σ H Q Z k q=>⟨_,q,λx H1 q=>?_⟩⟩;cases x with
  | ref a=>
   cases q with
   | t xs M q=>
    rw [XZ]at q;exact⟨a,rfl,⟨xs,M⟩,λacc L=>OC M (Jp q k) L⟩
  | _=>exact False.elim q
 | _+3,h=>exact nomatch h
theorem OT{X:Cx}{T:Tb}{fs:List Rel}{ms:List Mr}{nr:List (56:)}(F:Fit X T fs ms nr){kd:Nat}{f:Expr->Bool}{el b:Expr}{ifs:List Expr}{x:Str}{p pos:Pos}{scope:Scope}{cap:List Nat}{tit te:TE}{tt:TT}(h1:UC T cap x scope=true)(h:Li kd f T b=true)(hf:∀e,f e=true->PE X e tit)
 (hel:∀cl C fp s₀ H₀,PE (59:) el te) (hc:∀cl C fp s₀ H₀,PF (59:) ifs tt):PE X (.ListComp el [⟨.Name x p,b,ifs,0⟩] scope pos) (λσ H Q=>tit σ H λv H1=>Nb X.K kd v (WE cap σ) tt te H1 Q):=λpins s σ H Q I q=>by
 obtain⟨cl,O⟩:=VU F h1 λy G=>I.ok.has y (.inl G);obtain⟨L,w1,w2,J⟩:=OQ F (tg:=.Name x p) h hf;exact QK O F.ca w1 (Z0 O) (λC fp s₀ H₀=>OU (hc cl C fp s₀ H₀)) (λC fp s₀ H₀=>pe_up (hel cl C fp s₀ H₀)) w2 pins s σ H Q I (J _ _ _ _ _ _ _ (λ_ _ q=>q) q)
theorem PR{X:Cx}{c:Const}{x:V}{k:Nat}{p:Pos}(h:Re c x=true):PE X (.Constant c k p) (λ_ H Q=>Q x H):=by
 unfold Re at h;split at h
 .rw [of_decide_eq_true h];exact Qd
 .rw [of_decide_eq_true h];exact Zr
 .rw [of_decide_eq_true h];exact ZN
 .exact Zq
 .cases h
theorem rbE{X:Cx}{e:Expr}{n:Nat}{t:TE}{u:TT}(h:is e (n+1)=true)(k:PE X (reb (vw e) e.pos (n+1)) t/\PT X (reb (vw e) e.pos (n+1)) u):PE X e t/\PT X e u:=rb (P:=λe=>PE X e t/\PT X e u) h k
theorem Pq{e:Expr}{m:Str}{env:Env}(h:OW e=true):attributeBase e m env (eval e env)=eval e env:=by
 cases e<;>first | rfl | exact absurd (show false=true from h) Bool.false_ne_true
section
variable{fs:List Rel}{ms:List Mr}{nr:List (56:)}{sr:List (St->List V->Hp->(St->Hp->Prop)->Prop)}
mutual
theorem snb:∀(c:C){X:Cx}{T:Tb}(F:Fit X T fs ms nr)(e:Expr),chk c T e=true->PE X e (E (32:) c)/\PT X e (ET (32:) c)
 | .v i,X,T,F,e,h=>by
  obtain⟨G,h⟩:=b2 h;obtain⟨h,J⟩:=b2 h;obtain⟨h1,h2⟩:=b2 h;have h1:=of_decide_eq_true h1;rw [F.hN]at h1;rw [F.hs]at h2;exact rbE G (pvT (pe_mono (LP h1 (PP h2) (Nj J).1 (Nj J).2) λσ H Q q=>X4 q) rfl)
 | .k x,X,T,F,e,h=>by
  obtain⟨G,h⟩:=b2 h;exact rbE G (pvT (PR h) rfl)
 | .bin op a b,X,T,F,e,h=>by
  obtain⟨G,h⟩:=b2 h;obtain⟨h,J⟩:=b2 h;obtain⟨h1,h2⟩:=b2 h;refine rbE G ?_;show PE X (.BinOp (vw e).a (vw e).o (vw e).b e.pos) _/\PT X (.BinOp (vw e).a (vw e).o (vw e).b e.pos) _;rw [<-of_decide_eq_true h1];exact pvT (Qs (Tl op) (snb a F _ h2).1 (snb b F _ J).1) rfl
 | .cmp op a b,X,T,F,e,h=>by
  obtain⟨G,h⟩:=b2 h;obtain⟨h,M⟩:=b2 h;obtain⟨h,J⟩:=b2 h;obtain⟨h1,h2⟩:=b2 h;have M:behindInMarks op (vw e).b=false:=by simpa using M
  refine rbE G ?_;show PE X (.Compare (vw e).a [(vw e).q] [(vw e).b] e.pos) _/\PT X (.Compare (vw e).a [(vw e).q] [(vw e).b] e.pos) _;rw [<-of_decide_eq_true h1];exact⟨ZH (R4 op) (snb a F _ h2).1 (snb b F _ J).1 M,YF (Qr (L5 (R4 op)) (pe_up (snb a F _ h2).1) (pe_up (snb b F _ J).1) M) λσ H Q q=>⟨_,q,λx H1 q=>⟨_,q,λy H2 q=>⟨_,q,λz H3 q=>UA q⟩⟩⟩⟩
 | .ix a b,X,T,F,e,h=>by
  obtain⟨G,h⟩:=b2 h;obtain⟨h,J⟩:=b2 h;obtain⟨h1,h2⟩:=b2 h;exact rbE G (pvT (Qk ix_X (snb a F _ h1).1 (snb b F _ h2).1 (ord_ix J)) rfl)
 | .tup L,X,T,F,e,h=>by
  obtain⟨G,h⟩:=b2 h;exact rbE G (pvT (pe_mono (QD (OZ (LK L F _ h))) λσ H Q q=>⟨_,q,λvs H1 q=>by
   obtain⟨hl,q⟩:=Mn q;exact⟨Nat.le_trans hl (12:),λp hp=>q.h p _ (Qe hp _) (SqT.of Qb) Qb⟩⟩) rfl)
 | .lst L,X,T,F,e,h=>by
  obtain⟨G,h⟩:=b2 h;exact rbE G (pvT (pe_mono (QY (OZ (LK L F _ h))) λσ H Q q=>⟨_,q,λvs H1 q=>by
   obtain⟨hl,q⟩:=Mn q;exact⟨Nat.le_trans hl (12:),λp hp=>q.h p _ (Qe hp _) Qb hp⟩⟩) rfl)
 | .call i L,X,T,F,e,h=>by
  obtain⟨G,h⟩:=b2 h;obtain⟨h,M⟩:=b2 h;obtain⟨h,J⟩:=b2 h;obtain⟨h1,h2⟩:=b2 h;obtain⟨r,U,Y⟩:=F.hf X ⟨rfl,rfl,rfl,rfl,rfl,rfl,rfl⟩ _ _ (of_decide_eq_true h1);rw [F.hs]at h2;have Z:=XE L _ M;rw [List.all_cons,Bool.and_eq_true]at Z;refine rbE G (pvT (pe_mono (Y.ok (vw e).p e.pos _ _ _ (LK L F _ M) (LU h2) (Nj J).1 (ZB Z.1) (Um Z.2)) λσ H Q q=>?_) rfl);have q:Es (32:) L σ H λvs H1=>match fs[i]? with | some r=>r σ vs H1 Q | none=>False:=q
  rw [U]at q;exact q
 | .no a,X,T,F,e,h=>by
  obtain⟨G,h⟩:=b2 h;exact rbE G ⟨pe_mono (LW (pe_up (snb a F _ h).1)) λσ H Q q=>⟨_,q,λx H1 q=>UA q⟩,Zh (snb a F _ h).2⟩
 | .an a b,X,T,F,e,h=>by
  obtain⟨G,h⟩:=b2 h;obtain⟨h1,h2⟩:=b2 h;exact rbE G ⟨pe_mono (Vc (pe_up (snb a F _ h1).1) (MK (snb b F _ h2).1)) λσ H Q q=>⟨_,q,λx H1 q=>by
   obtain⟨c,e,q⟩:=UA q;exact⟨c,e,Lc q⟩⟩,YF (PW.pt (pw_and (W1 (snb a F _ h1).2) (Rc (snb b F _ h2).2))) λσ H Q q=>⟨_,q,λx H1 q=>Lc q⟩⟩
 | .oo a b,X,T,F,e,h=>by
  obtain⟨G,h⟩:=b2 h;obtain⟨h1,h2⟩:=b2 h;exact rbE G ⟨pe_mono (Ru (pe_up (snb a F _ h1).1) (MK (snb b F _ h2).1)) λσ H Q q=>⟨_,q,λx H1 q=>by
   obtain⟨c,e,q⟩:=UA q;exact⟨c,e,Lc q⟩⟩,YF (PW.pt (pw_or (W1 (snb a F _ h1).2) (Ps (snb b F _ h2).2))) λσ H Q q=>⟨_,q,λx H1 q=>Lc q⟩⟩
 | .meth i o L,X,T,F,e,h=>by
  obtain⟨G,h⟩:=b2 h;obtain⟨h,h6⟩:=b2 h;obtain⟨h,Z⟩:=b2 h;obtain⟨h,M⟩:=b2 h;obtain⟨h,J⟩:=b2 h;obtain⟨h1,h2⟩:=b2 h;obtain⟨r,U,Y⟩:=F.hm X ⟨rfl,rfl,rfl,rfl,rfl,rfl,rfl⟩ _ _ (of_decide_eq_true h1);refine rbE G (pvT (pe_mono (Y.ok (vw e).b _ _ _ _ (vw e).p e.pos (pe_up (snb o F _ h2).1) (LK L F _ M) (Pq J) (XE L _ M) (Nat.lt_succ_of_le (Nat.ble_eq.mp Z)) h6) λσ H Q q=>⟨_,q,λx H1 q=>?_⟩) rfl);have q:(match ms[i]? with | some m=>Cnd (m.ty x H1) (Es (32:) L σ H1 λxs H2=>m.r x xs H2 Q) | none=>False):=q;rw [U]at q;exact⟨q.h,q.k⟩
 | .nd i L,X,T,F,e,h=>by
  have h:(match T.nk[i]? with
   | some sh=>match sh e with
    | some es=>YS L T es
    | none=>false
   | none=>false)=true:=h
  split at h
  .rename_i sh ae;obtain⟨r,U,Y⟩:=F.hn X ⟨rfl,rfl,rfl,rfl,rfl,rfl,rfl⟩ _ _ ae;split at h
   .rename_i es ad;refine⟨pe_mono (Y.ok e es _ ad (Op L F _ h)) λσ H Q q=>?_,YF (Y.okT e es _ ad (Op L F _ h)) λσ H Q q=>?_⟩
    .have q:Es (32:) L σ H λvs H1=>match nr[i]? with | some r=>r vs H1 Q | none=>False:=q
     rw [U]at q;exact(Xw L).mp q
    .have q:Es (32:) L σ H λvs H1=>match nr[i]? with | some r=>r vs H1 (λx H2=>asB x H2 Q) | none=>False:=q
     rw [U]at q;exact(Xw L).mp q
   .cases h
  .cases h
 | .iff c a b,X,T,F,e,h=>by
  obtain⟨G,h⟩:=b2 h;obtain⟨h,J⟩:=b2 h;obtain⟨h1,h2⟩:=b2 h;refine rbE G ⟨pe_mono (Jz (W1 (snb c F _ h1).2) (snb a F _ h2).1 (snb b F _ J).1) λσ H Q q=>⟨_,q,λx H1 q=>Lc q⟩,λpins s σ H Q I q=>?_⟩;refine PyProof.Rows.isTrue_IfExp (thn ((snb c F _ h1).2 pins s σ H _ I q) λd s1 ⟨H1,I1,q1⟩=>?_);cases d with
  | true=>exact(snb a F _ h2).2 pins s1 σ H1 _ I1 q1
  | false=>exact(snb b F _ J).2 pins s1 σ H1 _ I1 q1
 | .comp kd it cap aa,X,T,F,e,h=>by
  obtain⟨G,h⟩:=b2 h;obtain⟨h,J⟩:=b2 h;obtain⟨h1,h2⟩:=b2 h;exact rbE G (pvT (OT F h1 J (λe h=>(snb it F e h).1) (λcl C fp ab ac=>(snb aa (F.inn _ _ cl C fp ab ac) _ h2).1) λ_ _ _ _ _=>QX) rfl)
 | .compI kd it cap af aa,X,T,F,e,h=>by
  obtain⟨G,h⟩:=b2 h;obtain⟨h,J⟩:=b2 h;obtain⟨h,hc⟩:=b2 h;obtain⟨h1,h2⟩:=b2 h;exact rbE G (pvT (OT F h1 J (λe h=>(snb it F e h).1) (λcl C fp ab ac=>(snb aa (F.inn _ _ cl C fp ab ac) _ h2).1) λcl C fp ab ac=>Ur (snb af (F.inn _ _ cl C fp ab ac) _ hc).2) rfl)
theorem LK:∀(as:List C){X:Cx}{T:Tb}(F:Fit X T fs ms nr)(es:List Expr),YS as T es=true->PA X es (Es (32:) as)
 | [],X,T,F,[],h=>Qc
 | [],_,_,_,_::_,h=>nomatch h
 | _::_,_,_,_,[],h=>nomatch h
 | a::r,X,T,F,e::es,h=>by
  obtain⟨h,G⟩:=b2 (show(ord e&&chk a T e&&YS r T es)=true from h);obtain⟨h1,h2⟩:=b2 h;exact Qa (snb a F _ h2).1 (LK r F _ G) (ZB h1)
theorem Op:∀(as:List C){X:Cx}{T:Tb}(F:Fit X T fs ms nr)(es:List Expr),YS as T es=true->PEs X es (as.map (E (32:)))
 | [],X,T,F,[],h=>.nil
 | [],_,_,_,_::_,h=>nomatch h
 | _::_,_,_,_,[],h=>nomatch h
 | a::r,X,T,F,e::es,h=>by
  obtain⟨h,G⟩:=b2 (show(ord e&&chk a T e&&YS r T es)=true from h);exact .cons (snb a F _ (b2 h).2).1 (Op r F _ G)
end
theorem snd(c:C){X:Cx}{T:Tb}(F:Fit X T fs ms nr)(e:Expr)(h:chk c T e=true):PE X e (E (32:) c):=(snb c F e h).1
theorem snt(c:C){X:Cx}{T:Tb}(F:Fit X T fs ms nr)(e:Expr)(h:chk c T e=true):PT X e (ET (32:) c):=(snb c F e h).2
end
end G3
namespace G3
open PySem L2
inductive S where
 | set (i:Nat) (c:C) | ret (c:C) | ex (c:C) | ite (c:C) (a b:List S)
 | forR (i:Nat) (c:C) (b:List S) | forL (i:Nat) (c:C) (b:List S) | forT (i:Nat) (c:C) (b:List S)
 | setC (i:Nat) (c:C) | cut (s:S) | unp (is:List Nat) (c:C)
 | wh (c:C) (b:List S) | forU (is:List Nat) (c:C) (b:List S) | sx (i:Nat) (as:List C)
inductive ForR(i m:Nat)(tb:TS)(D:Ends)(σ:St)(H:Hp):Prop where
 | f (Pv:Nat->St->Hp->Prop) (h0:Pv 0 σ H) (hs:∀j σ H,j<m->Pv j σ H->Xu σ i (.int (j:Int)) λσ2=>tb { D with nx:=Pv (j+1),ct:=Pv (j+1),bk:=D.nx } σ2 H) (hd:∀σ H,Pv m σ H->D.nx σ H):ForR i m tb D σ H
inductive ForL(K:Fg)(i:Nat)(a:Addr)(tb:TS)(D:Ends)(σ:St)(H:Hp):Prop where
 | f (xs:List V) (Pv:Nat->St->Hp->Prop) (h0:Pv 0 σ H) (hl:∀j σ H,j<=xs.length->Pv j σ H->SqL K H a xs) (hs:∀j x σ H,xs[j]?=some x->Pv j σ H->Xu σ i x λσ2=>tb { D with nx:=Pv (j+1),ct:=Pv (j+1),bk:=D.nx } σ2 H) (hd:∀σ H,Pv xs.length σ H->D.nx σ H):ForL K i a tb D σ H
inductive ForT(K:Fg)(i:Nat)(a:Addr)(tb:TS)(D:Ends)(σ:St)(H:Hp):Prop where
 | f (xs:List V) (Pv:Nat->St->Hp->Prop) (h0:Pv 0 σ H) (hl:∀j σ H,j<=xs.length->Pv j σ H->SqT K H a xs) (hs:∀j x σ H,xs[j]?=some x->Pv j σ H->Xu σ i x λσ2=>tb { D with nx:=Pv (j+1),ct:=Pv (j+1),bk:=D.nx } σ2 H) (hd:∀σ H,Pv xs.length σ H->D.nx σ H):ForT K i a tb D σ H
inductive Cut(t:TS)(D:Ends)(σ:St)(H:Hp):Prop where
 | c (R:St->Hp->Prop) (h:t { D with nx:=R } σ H) (k:∀σ' H',R σ' H'->D.nx σ' H'):Cut t D σ H
def Wy:St->List Nat->List V->(St->Prop)->Prop
 | σ,[],[],k=>k σ
 | σ,i::is,x::xs,k=>Xu σ i x λσ'=>Wy σ' is xs k
 | _,_,_,_=>False
inductive Unp(K:Fg)(a:Addr)(is:List Nat)(σ:St)(H:Hp)(k:St->Hp->Prop):Prop where
 | u (xs:List V) (h:SqT K H a xs) (q:Wy σ is xs λσ'=>k σ' H):Unp K a is σ H k
inductive Wh(c:TT)(tb:TS)(D:Ends)(σ:St)(H:Hp):Prop where
 | w (J:Nat->St->Hp->Prop) (m:Nat) (h0:J m σ H) (hs:∀m σ H,J m σ H->c σ H λb H1=>cond b (tb { D with nx:=λσ' H'=>∃m'<m,J m' σ' H',ct:=λσ' H'=>∃m'<m,J m' σ' H',bk:=D.nx } σ H1) (D.nx σ H1)):Wh c tb D σ H
inductive ForU(K:Fg)(is:List Nat)(a:Addr)(tb:TS)(D:Ends)(σ:St)(H:Hp):Prop where
 | f (xs:List V) (Pv:Nat->St->Hp->Prop) (h0:Pv 0 σ H) (hl:∀j σ H,j<=xs.length->Pv j σ H->SqL K H a xs) (hs:∀j x σ H,xs[j]?=some x->Pv j σ H->∃b ys,x=.ref b/\SqT K H b ys/\Wy σ is ys λσ2=>tb { D with nx:=Pv (j+1),ct:=Pv (j+1),bk:=D.nx } σ2 H) (hd:∀σ H,Pv xs.length σ H->D.nx σ H):ForU K is a tb D σ H
mutual
noncomputable def E1(n:En):S->TS
 | .set i c=>λD σ H=>E n c σ H λx H1=>Xu σ i x λσ'=>D.nx σ' H1
 | .ret c=>λD σ H=>E n c σ H D.rt
 | .ex c=>λD σ H=>E n c σ H λ_ H1=>D.nx σ H1
 | .ite c a b=>λD σ H=>ET n c σ H λt H1=>cond t (ES n a D σ H1) (ES n b D σ H1)
 | .forR i c b=>λD σ H=>E n c σ H λx H1=>match x with | .int j=>Cnd (RK j) (ForR i j.toNat (ES n b) D σ H1) | _=>False
 | .forL i c b=>λD σ H=>E n c σ H λx H1=>match x with | .ref a=>ForL n.K i a (ES n b) D σ H1 | _=>False
 | .forT i c b=>λD σ H=>E n c σ H λx H1=>match x with | .ref a=>ForT n.K i a (ES n b) D σ H1 | _=>False
 | .cut s=>λD σ H=>Cut (E1 n s) D σ H
 | .unp is c=>λD σ H=>E n c σ H λx H1=>match x with | .ref a=>Unp n.K a is σ H1 D.nx | _=>False
 | .wh c b=>λD σ H=>Wh (ET n c) (ES n b) D σ H
 | .forU is c b=>λD σ H=>E n c σ H λx H1=>match x with | .ref a=>ForU n.K is a (ES n b) D σ H1 | _=>False
 | .sx i as=>λD σ H=>Es n as σ H λvs H1=>match n.sr[i]? with | some r=>r σ vs H1 D.nx | none=>False
 | .setC i c=>λD σ H=>E n c σ H λx H1=>Xu σ i x λσ'=>D.nx σ' H1
termination_by structural c=>c
noncomputable def ES(n:En):List S->TS
 | []=>λD σ H=>D.nx σ H
 | s::r=>λD σ H=>E1 n s { D with nx:=ES n r D } σ H
termination_by structural c=>c
end
structure Vs where
 t:Nat
 x:Str
 p:Pos
 a:Expr
 l:List Expr
 k:Nat
 b:List Stmt
 c:List Stmt
def Vs.z:Vs:=⟨0,Str.empty,default,.Name Str.empty default,[],0,[],[]⟩
def S4(a:Expr):List Expr->Vs
 | [g]=>match g with
  | .Name x p=>{ Vs.z with t:=1,x:=x,p:=p,a:=a }
  | .Tuple l k p=>{ Vs.z with t:=6,l:=l,k:=k,p:=p,a:=a }
  | _=>Vs.z
 | _=>Vs.z
def Ty:Option Expr->Vs
 | some a=>{ Vs.z with t:=2,a:=a }
 | none=>Vs.z
def Th(g a:Expr)(b:List Stmt):List Stmt->Vs
 | []=>match g with
  | .Name x p=>{ Vs.z with t:=5,x:=x,p:=p,a:=a,b:=b }
  | .Tuple l k p=>{ Vs.z with t:=8,l:=l,k:=k,p:=p,a:=a,b:=b }
  | _=>Vs.z
 | _=>Vs.z
def sWh(a:Expr)(b:List Stmt):List Stmt->Vs
 | []=>{ Vs.z with t:=7,a:=a,b:=b }
 | _=>Vs.z
def vs:Stmt->Vs
 | .Assign g a _=>S4 a g
 | .Return a _=>Ty a
 | .Expr a _=>{ Vs.z with t:=3,a:=a }
 | .If a b c _=>{ Vs.z with t:=4,a:=a,b:=b,c:=c }
 | .For g a b c _=>Th g a b c
 | .While a b c _=>sWh a b c
 | _=>Vs.z
def SM(v:Vs)(p:Pos):Nat->Stmt
 | 1=>.Assign [.Name v.x v.p] v.a p
 | 2=>.Return (some v.a) p
 | 3=>.Expr v.a p
 | 4=>.If v.a v.b v.c p
 | 5=>.For (.Name v.x v.p) v.a v.b [] p
 | 6=>.Assign [.Tuple v.l v.k v.p] v.a p
 | 7=>.While v.a v.b [] p
 | 8=>.For (.Tuple v.l v.k v.p) v.a v.b [] p
 | _=>.Pass p
theorem vs_eq(s:Stmt):(vs s).t=0\/∃p,SM (vs s) p (vs s).t=s:=by
 cases s with
 | Assign g a p=>
  rcases g with _ | ⟨g,_ | ⟨_,_⟩⟩
  .exact .inl rfl
  .cases g<;>first | exact .inr ⟨_,rfl⟩ | exact .inl rfl
  .exact .inl rfl
 | Return a p=>cases a<;>first | exact .inr ⟨_,rfl⟩ | exact .inl rfl
 | For g a b c p=>
  cases c with
  | nil=>cases g<;>first | exact .inr ⟨_,rfl⟩ | exact .inl rfl
  | cons _ _=>exact .inl rfl
 | While a b c p=>cases c<;>first | exact .inr ⟨_,rfl⟩ | exact .inl rfl
 | _=>first | exact .inr ⟨_,rfl⟩ | exact .inl rfl
def isS(s:Stmt)(n:Nat):Bool:=Nat.beq (vs s).t n
theorem rbS{X:Cx}{t:TS}{s:Stmt}{n:Nat}(h:isS s (n+1)=true)(k:∀p,PS X (SM (vs s) p (n+1)) t):PS X s t:=by
 have J:(vs s).t=n+1:=Nat.eq_of_beq_eq_true h;rcases vs_eq s with G | ⟨p,G⟩
 .rw [G]at J;cases J
 .rw [J]at G;exact Eq.subst (motive:=λs=>PS X s t) G (k p)
def tgB(T:Tb)(i:Nat)(x:Str):Bool:=decide (T.N[i]?=some x)&&Pg T.sc x
def chN(T:Tb):List Nat->List Expr->Bool
 | [],es=>es.isEmpty
 | i::is,es=>match es with
  | e::es=>G3.is e 1&&tgB T i (vw e).x&&chN T is es
  | []=>false
def OP:Expr->Bool
 | .Tuple _ _ _=>false
 | _=>true
def VF:C->Bool
 | .comp _ _ _ _=>true
 | .compI _ _ _ _ _=>true
 | _=>false
mutual
noncomputable def ch1(T:Tb):S->Stmt->Bool
 | .set i c,s=>isS s 1&&(tgB T i (vs s).x&&chk c T (vs s).a&&osw (vs s).a)
 | .ret c,s=>isS s 2&&chk c T (vs s).a
 | .ex c,s=>isS s 3&&(chk c T (vs s).a&&osw (vs s).a)
 | .ite c a b,s=>isS s 4&&(chk c T (vs s).a&&chS T a (vs s).b&&chS T b (vs s).c)
 | .forR i c b,s=>isS s 5&&(tgB T i (vs s).x&&Li 0 (chk c T) T (vs s).a&&chS T b (vs s).b)
 | .forL i c b,s=>isS s 5&&(tgB T i (vs s).x&&(chk c T (vs s).a&&ord (vs s).a)&&chS T b (vs s).b)
 | .forT i c b,s=>isS s 5&&(tgB T i (vs s).x&&(chk c T (vs s).a&&ord (vs s).a)&&chS T b (vs s).b)
 | .cut a,s=>ch1 T a s
 | .unp is c,s=>isS s 6&&(chN T is (vs s).l&&chk c T (vs s).a&&OP (vs s).a)
 | .wh c b,s=>isS s 7&&(chk c T (vs s).a&&chS T b (vs s).b)
 | .forU is c b,s=>isS s 8&&(chN T is (vs s).l&&(chk c T (vs s).a&&ord (vs s).a)&&chS T b (vs s).b)
 | .sx i as,s=>match T.sk[i]? with
  | some sh=>match sh s with
   | some es=>YS as T es
   | none=>false
  | none=>false
 | .setC i c,s=>isS s 1&&(VF c&&(decide (T.N[i]?=some (vs s).x)&&decide (T.sc.names.lookup (vs s).x=some .local)&&chk c T (vs s).a&&((vs s).p.line==(vs s).a.pos.line)&& !((vw (vs s).a).s.names.any λz=>z.1==(vs s).x&&(z.2== .local||z.2== .cell))))
termination_by structural c=>c
noncomputable def chS(T:Tb):List S->List Stmt->Bool
 | [],ss=>ss.isEmpty
 | a::r,ss=>match ss with
  | s::ss=>ch1 T a s&&chS T r ss
  | []=>false
termination_by structural c=>c
end
theorem Zx{X:Cx}{s:Stmt}{t u:TS}(h:PS X s t)(k:∀D σ H,u D σ H->t D σ H):PS X s u:=λpins s σ H D I q=>h pins s σ H D I (k D σ H q)
structure SNodeOk(X:Cx)(sh:Stmt->Option (List Expr))(r:St->List V->Hp->(St->Hp->Prop)->Prop):Prop where
 ok:∀(s:Stmt)(es:List Expr)(ts:List TE),sh s=some es->PEs X es ts->PS X s (λD σ H=>VQ ts σ H λvs H1=>r σ vs H1 D.nx)
structure FitS(X:Cx)(T:Tb)(fs:List Rel)(ms:List Mr)(nr:List (56:))(sr:List (St->List V->Hp->(St->Hp->Prop)->Prop)):Prop where
 f:Fit X T fs ms nr
 nd:X.N.Nodup
 fn:∀x,X.fn x=true
 po:PassesOwn (4:) X.A X.env X.xe
 hx:∀(i:Nat) sh,T.sk[i]?=some sh->∃r,sr[i]?=some r/\SNodeOk X sh r
theorem Sq{X:Cx}{T:Tb}{fs:List Rel}{ms:List Mr}{nr:List (56:)}(F:Fit X T fs ms nr){cap:List Nat}{x y:Str}{scope:Scope}{el:Expr}{gs:List Comprehension}{pos py sp:Pos}(h:UC T cap x scope=true)(h2:T.sc.names.lookup y=some .local)(h3:(py.line==pos.line)=true)(h4:(!(scope.names.any λz=>z.1==y&&(z.2== .local||z.2== .cell)))=true):
 swapsWith (.ListComp el gs scope pos) (some (.Name y py)) sp.line X.env=pure true:=by
 unfold UC at h;simp only [Bool.and_eq_true,decide_eq_true_eq]at h;have G:T.sc.kind=.function:=h.1.1.1.1.1.1.1.2;rw [F.hs]at G h2;have J:X.env.blockKind=.function:=by unfold Env.blockKind;rw [G];rfl
 show(pure (X.env.blockKind== .function&&X.env.kindOf y==some .local&&py.line==pos.line&& !(scope.names.any λz=>z.1==y&&(z.2== .local||z.2== .cell))):Sem Bool)=pure true;rw [J,h3,h4,show X.env.kindOf y=some .local from h2]
 rfl
def gsN:List Nat->TGs
 | []=>Vk
 | i::is=>Yd (QP i) (gsN is)
theorem X9{H:Hp}{k:St->Hp->Prop}:∀{is:List Nat}{xs:List V}{σ:St},(Wy σ is xs λσ'=>k σ' H)->gsN is xs σ H k
 | [],[],σ,h=>⟨rfl,h⟩
 | i::is,x::xs,σ,h=>⟨x,xs,rfl,X9 (is:=is) (xs:=xs) (ZS h)⟩
 | [],_::_,_,h=>h.elim
 | _::_,[],_,h=>h.elim
theorem Jd{k:St->Prop}:∀{is:List Nat}{xs:List V}{σ:St},Wy σ is xs k->xs.length=is.length
 | [],[],σ,h=>rfl
 | i::is,x::xs,σ,h=>congrArg (· +1) (Jd (is:=is) (xs:=xs) (ZS h))
 | [],_::_,_,h=>h.elim
 | _::_,[],_,h=>h.elim
theorem Mp{l:List Expr}{k n:Nat}{p:Pos}{e:Expr}{env:Env}(h:OP e=true):swapsWithSole [.Tuple l k p] e n env=pure false/\swappedStores [.Tuple l k p] e env=pure none:=by
 cases e<;>first | exact⟨rfl,rfl⟩ | exact absurd (show false=true from h) Bool.false_ne_true
theorem Ro:∀{c:C},VF c=true->(∃kd it cap elt,c=.comp kd it cap elt)\/∃kd it cap cnd elt,c=.compI kd it cap cnd elt:=λ{c} h=>by
 cases c<;>first | exact .inl ⟨_,_,_,_,rfl⟩ | exact .inr ⟨_,_,_,_,_,rfl⟩ | exact nomatch h
section
variable{X:Cx}{T:Tb}{fs:List Rel}{ms:List Mr}{nr:List (56:)}{sr:List (St->List V->Hp->(St->Hp->Prop)->Prop)}(F:FitS X T fs ms nr sr)
include F
theorem V5{i:Nat}{x:Str}{pos:Pos}(h:tgB T i x=true):PG X (.Name x pos) (QP i):=by
 obtain⟨h1,h2⟩:=b2 h;have h1:=of_decide_eq_true h1;rw [F.f.hN]at h1;rw [F.f.hs]at h2;exact Qt F.nd h1 (MR h2) (.inl (F.fn x))
theorem Je:∀(is:List Nat)(es:List Expr),chN T is es=true->PGs X es (gsN is)/\(assignEach es X.env).length=is.length/\(assignEach es X.env).findIdx? (·.1)=none
 | [],[],_=>⟨Zg,rfl,rfl⟩
 | i::is,e::es,h=>by
  obtain⟨h,G⟩:=b2 (show(G3.is e 1&&tgB T i (vw e).x&&chN T is es)=true from h);obtain⟨h1,h2⟩:=b2 h;obtain⟨J,L,M⟩:=Je is es G;refine rb (P:=λe=>PGs X (e::es) (gsN (i::is))/\(assignEach (e::es) X.env).length=(i::is).length/\(assignEach (e::es) X.env).findIdx? (·.1)=none) h1 ⟨Qy (V5 F h2) J rfl,?_,?_⟩
  .show(assignEach es X.env).length+1=is.length+1;rw [L]
  .show((false,assign (.Name (vw e).x e.pos) X.env)::assignEach es X.env).findIdx? (·.1)=none;rw [List.findIdx?_cons];simp [M]
 | [],_::_,h=>nomatch h
 | _::_,[],h=>nomatch h
theorem VW{i kd:Nat}{f:Expr->Bool}{el b:Expr}{ifs:List Expr}{x y:Str}{p pos py sp:Pos}{scope:Scope}{cap:List Nat}{tit te:TE}{tt:TT}(y1:decide (T.N[i]?=some y)=true)(y2:decide (T.sc.names.lookup y=some .local)=true)(y3:(py.line==pos.line)=true)(y4:(!(scope.names.any λz=>z.1==y&&(z.2== .local||z.2== .cell)))=true)(h1:UC T cap x scope=true)(h:Li kd f T b=true)(hf:∀e,f e=true->PE X e tit)
 (hel:∀cl C fp s₀ H₀,PE (59:) el te) (hc:∀cl C fp s₀ H₀,PF (59:) ifs tt):PS X (.Assign [.Name y py] (.ListComp el [⟨.Name x p,b,ifs,0⟩] scope pos) sp) (λD σ H=>tit σ H λv H1=>Nb X.K kd v (WE cap σ) tt te H1 λx H1=>Xu σ i x λσ'=>D.nx σ' H1):=λpins s σ H D I q=>by
 have y1:=of_decide_eq_true y1;have y2:=of_decide_eq_true y2;have G:=y2;rw [F.f.hN]at y1;rw [F.f.hs]at G;obtain⟨cl,O⟩:=VU F.f h1 λy J=>I.ok.has y (.inl J);obtain⟨M,w1,w2,L⟩:=OQ F.f (tg:=.Name x p) h hf;exact ZO O F.f.ca w1 (Z0 O) (λC fp s₀ H₀=>OU (hc cl C fp s₀ H₀)) (λC fp s₀ H₀=>pe_up (hel cl C fp s₀ H₀)) F.nd y1 G (Sq F.f h1 y2 y3 y4) w2 pins s σ H D I (L _ _ _ _ _ _ _ (λ_ _ q=>ZS q) q)
theorem Oh{i:Nat}{c:C}{y:Str}{e:Expr}{py sp:Pos}(hk:VF c=true)(y1:decide (T.N[i]?=some y)=true)(y2:decide (T.sc.names.lookup y=some .local)=true)(h:chk c T e=true)(y3:(py.line==e.pos.line)=true)(y4:(!((vw e).s.names.any λz=>z.1==y&&(z.2== .local||z.2== .cell)))=true):PS X (.Assign [.Name y py] e sp) (E1 (32:) (.setC i c)):=by
 rcases Ro hk with⟨U,it,cap,G,rfl⟩ | ⟨U,it,cap,M,G,rfl⟩
 .obtain⟨Y,h⟩:=b2 h;obtain⟨h,Z⟩:=b2 h;obtain⟨h1,h2⟩:=b2 h;exact rb (P:=λe=>PS X (.Assign [.Name y py] e sp) (E1 (32:) (.setC i (.comp U it cap G)))) Y (VW F y1 y2 y3 y4 h1 Z (λe h=>snd (sr:=sr) it F.f e h) (λcl C fp J L=>snd (sr:=sr) G (F.f.inn _ _ cl C fp J L) _ h2) λ_ _ _ _ _=>QX)
 .obtain⟨Y,h⟩:=b2 h;obtain⟨h,Z⟩:=b2 h;obtain⟨h,hc⟩:=b2 h;obtain⟨h1,h2⟩:=b2 h;exact rb (P:=λe=>PS X (.Assign [.Name y py] e sp) (E1 (32:) (.setC i (.compI U it cap M G)))) Y (VW F y1 y2 y3 y4 h1 Z (λe h=>snd (sr:=sr) it F.f e h) (λcl C fp J L=>snd (sr:=sr) G (F.f.inn _ _ cl C fp J L) _ h2) λcl C fp J L=>Ur (snt (sr:=sr) M (F.f.inn _ _ cl C fp J L) _ hc))
mutual
theorem sn1:∀(c:S)(s:Stmt),ch1 T c s=true->PS X s (E1 (32:) c)
 | .set i c,s,h=>by
  obtain⟨G,h⟩:=b2 h;obtain⟨h,M⟩:=b2 h;obtain⟨h,h2⟩:=b2 h;obtain⟨h1,h4⟩:=b2 h;have h1:=of_decide_eq_true h1;rw [F.f.hN]at h1;rw [F.f.hs]at h4;exact rbS G λp=>Zx (Qo F.nd h1 (MR h4) (pe_up (snd (sr:=sr) c F.f _ h2)) (WO M) (.inl (F.fn _))) λD σ H q=>⟨_,q,λx H1 q=>ZS q⟩
 | .ret c,s,h=>by
  obtain⟨G,h⟩:=b2 h;exact rbS G λp=>Ql (snd (sr:=sr) c F.f _ h)
 | .ex c,s,h=>by
  obtain⟨G,h⟩:=b2 h;obtain⟨h1,h2⟩:=b2 h;exact rbS G λp=>Zw (snd (sr:=sr) c F.f _ h1) (WO h2)
 | .ite c a b,s,h=>by
  obtain⟨G,h⟩:=b2 h;obtain⟨h,M⟩:=b2 h;obtain⟨h1,h2⟩:=b2 h;exact rbS G λp=>Zx (QC (W1 (snt (sr:=sr) c F.f _ h1)) (snS a _ h2) (snS b _ M)) λD σ H q=>⟨_,q,λx H1 q=>Lc q⟩
 | .forR i c b,s,h=>by
  obtain⟨G,h⟩:=b2 h;obtain⟨h,h7⟩:=b2 h;obtain⟨h1,h⟩:=b2 h;obtain⟨h2,h⟩:=b2 (show(is (vs s).a 8&&_)=true from h);obtain⟨h,L⟩:=b2 h;obtain⟨h,U⟩:=b2 h;obtain⟨h,h4⟩:=b2 h;obtain⟨M,h8⟩:=b2 h;have M:=of_decide_eq_true M;rw [F.f.hs,M]at h8;refine rbS G λp=>rb (P:=λe=>PS X (.For (.Name (vs s).x (vs s).p) e (vs s).b [] p) (E1 (32:) (.forR i c b))) h2 ?_;show PS X (.For _ (.Call (.Name (vw (vs s).a).x (vw (vs s).a).p) ((vw (vs s).a).a::(vw (vs s).a).l) [] (vs s).a.pos) _ [] p) _;rw [M,M8 h4];refine Zx (QL F.po F.f.ca (QM (LU h8) F.f.rg (Qa (pe_up (snd (sr:=sr) c F.f _ U)) Qc (ZB L)) (ZB L)) (V5 F h1) (snS b _ h7)) λD σ H q=>⟨_,q,λx H1 q=>?_⟩;cases x with
  | int j=>
   obtain⟨hr,q⟩:=q;refine⟨j,rfl,hr.1,hr.2,?_⟩;cases q with
   | f Y G Z hd=>exact Zi (lo:=0) Y G (λj σ H hj hp=>by rw [Int.zero_add];exact ZS (Z j σ H hj hp)) hd
  | _=>exact False.elim q
 | .forL i c b,s,h=>by
  obtain⟨G,h⟩:=b2 h;obtain⟨h,h7⟩:=b2 h;obtain⟨h1,h⟩:=b2 h;obtain⟨U,L⟩:=b2 h;refine rbS G λp=>Zx (QL F.po F.f.ca (QG (pe_up (snd (sr:=sr) c F.f _ U))) (V5 F h1) (snS b _ h7) (Ys L)) λD σ H q=>⟨_,q,λx H1 q=>?_⟩;cases x with
  | ref a=>
   cases q with
   | f ys Y G hl Z hd=>exact⟨a,rfl,⟨ys,hl 0 _ _ (Nat.zero_le _) G⟩,Zn Y G hl (λj x σ H hj hp=>ZS (Z j x σ H hj hp)) hd⟩
  | _=>exact False.elim q
 | .forT i c b,s,h=>by
  obtain⟨G,h⟩:=b2 h;obtain⟨h,h7⟩:=b2 h;obtain⟨h1,h⟩:=b2 h;obtain⟨U,L⟩:=b2 h;refine rbS G λp=>Zx (QL F.po F.f.ca (Yl (pe_up (snd (sr:=sr) c F.f _ U))) (V5 F h1) (snS b _ h7) (Ys L)) λD σ H q=>⟨_,q,λx H1 q=>?_⟩;cases x with
  | ref a=>
   cases q with
   | f ys Y G hl Z hd=>exact⟨a,rfl,⟨ys,hl 0 _ _ (Nat.zero_le _) G⟩,NX Y G hl (λj x σ H hj hp=>ZS (Z j x σ H hj hp)) hd⟩
  | _=>exact False.elim q
 | .cut a,s,h=>Zx (Uk (sn1 a s h)) λD σ H q=>by
  cases q with
  | c R h k=>exact⟨R,h,k⟩
 | .unp is c,s,h=>by
  obtain⟨G,h⟩:=b2 h;obtain⟨h,L⟩:=b2 h;obtain⟨h,U⟩:=b2 h;obtain⟨h1,h2,M⟩:=Je F is _ h;refine rbS G λp=>Zx (Ja (pe_up (snd (sr:=sr) c F.f _ U)) (Zs (X:=X) F.f.ca h1 h2 M) (Mp L).1 (Mp (n:=0) L).2 rfl) λD σ H q=>⟨_,q,λx H1 q=>?_⟩;cases x with
  | ref a=>
   cases q with
   | u xs hx k=>exact⟨a,xs,rfl,hx,Jd k,X9 k⟩
  | _=>exact False.elim q
 | .wh c b,s,h=>by
  obtain⟨G,h⟩:=b2 h;obtain⟨h1,h2⟩:=b2 h;refine rbS G λp=>Zx (WS F.po (W1 (snt (sr:=sr) c F.f _ h1)) (snS b _ h2)) λD σ H q=>?_;cases q with
  | w J m G Z=>exact⟨J,⟨m,G⟩,λm σ H p=>⟨_,Z m σ H p,λb H1 q=>by
   cases b with
   | true=>exact QU ⟨_,λad H' h=>h,q⟩
   | false=>exact Zc q⟩⟩
 | .forU is c b,s,h=>by
  obtain⟨G,h⟩:=b2 h;obtain⟨h,h7⟩:=b2 h;obtain⟨h1,h⟩:=b2 h;obtain⟨U,L⟩:=b2 h;obtain⟨n1,n2,n3⟩:=Je F is _ h1;refine rbS G λp=>Zx (QL F.po F.f.ca (QG (pe_up (snd (sr:=sr) c F.f _ U))) (Zs (X:=X) F.f.ca n1 n2 n3) (snS b _ h7) (Ys L)) λD σ H q=>⟨_,q,λx H1 q=>?_⟩;cases x with
  | ref a=>
   cases q with
   | f ys Y G hl Z hd=>exact⟨a,rfl,⟨ys,hl 0 _ _ (Nat.zero_le _) G⟩,Zn Y G hl (λj x σ H hj hp=>by
    obtain⟨b',zs,e,hz,k⟩:=Z j x σ H hj hp;exact⟨b',zs,e,hz,Jd k,X9 (k:=λac H2=>ES (32:) b { D with nx:=Y (j+1),ct:=Y (j+1),bk:=D.nx } ac H2) k⟩) hd⟩
  | _=>exact False.elim q
 | .sx i as,s,h=>by
  have h:(match T.sk[i]? with
   | some sh=>match sh s with
    | some es=>YS as T es
    | none=>false
   | none=>false)=true:=h
  split at h
  .rename_i sh aa;obtain⟨r,e1,e2⟩:=F.hx _ _ aa;split at h
   .rename_i es ab;refine Zx (e2.ok s es _ ab (Op (sr:=sr) as F.f _ h)) λD σ H q=>?_;have q:Es (32:) as σ H λvs H1=>match sr[i]? with | some r=>r σ vs H1 D.nx | none=>False:=q
    rw [e1]at q;exact(Xw as).mp q
   .cases h
  .cases h
 | .setC i c,s,h=>by
  obtain⟨G,h⟩:=b2 h;obtain⟨hk,h⟩:=b2 h;obtain⟨h,y4⟩:=b2 h;obtain⟨h,y3⟩:=b2 h;obtain⟨h,h1⟩:=b2 h;exact rbS G λp=>Oh F hk (b2 h).1 (b2 h).2 h1 y3 y4
theorem snS:∀(as:List S)(ss:List Stmt),chS T as ss=true->PSs X ss (ES (32:) as)
 | [],[],h=>Qq
 | [],_::_,h=>nomatch h
 | _::_,[],h=>nomatch h
 | a::r,s::ss,h=>by
  obtain⟨h1,h2⟩:=b2 (show(ch1 T a s&&chS T r ss)=true from h);exact Qf (sn1 a _ h1) (snS r _ h2)
end
end
end G3
namespace L2
open PySem
def MV(x:Addr)(H H':Hp):Prop:=∀b u,b≠x->H b=some u->H' b=some u
structure InsAt(H:Hp)(x:Addr):Prop where
 ex:∃C dx fs,H x=some (.ins C dx fs)
theorem InsAt.seqT{K:Fg}{x:Addr}{H H':Hp}{a:Addr}{xs:List V}(i:InsAt H x)(g:MV x H H')(h:SqT K H a xs):SqT K H' a xs:=by
 obtain⟨C,dx,fs,G⟩:=i.ex;rcases h with(h | ⟨o,h⟩) | h
 .exact .inl (.inl (g _ _ (Q3 h G (31:)) h))
 .exact .inl (.inr ⟨o,g _ _ (Q3 h G (31:)) h⟩)
 .exact .inr h
theorem Xr{f g:Str}{v y:V}{r:List (Str×V)}(h:¬g=f):ZK f v ((g,y)::r)=(g,y)::ZK f v r:=by
 show(if g=f then _ else _)=_;rw [if_neg h]
theorem OJ{f:Str}{v y:V}{r:List (Str×V)}:ZK f v ((f,y)::r)=(f,v)::r:=by
 show(if f=f then _ else _)=_;rw [if_pos rfl]
end L2
namespace L2
open PySem PySem.Spec PyProof.Rows
section
variable{X:Cx}
end
end L2
namespace L2
open PySem PySem.Spec PyProof.Rows
section
variable{X:Cx}
end
section
variable{P:Program}{w:World}{K:Fg}{mg:Str->Option Value}{base:Heap}
theorem Oq{x:Str}{f c T:Addr}{oc:Value}{od:Option Addr}{fd:FuncData}{sl:Array (Option Value)}(hn:PySem.W.nsIn K mainGlobals x=some (some (.ref f)))(lk:K.lookup f=some ⟨oc,od,.func fd,sl⟩)(h:PySem.W.tabIn K x=some (c,T)):fd.code=.ref c:=by
 unfold PySem.W.tabIn at h;rw [hn]at h;simp only [lk]at h;split at h
 .rename_i J G;split at h
  .split at h
   .cases h;exact G
   .cases h
  .cases h
 .cases h
theorem Fun.okC{x qual:Str}{st:Stmt}{f c T:Addr}{fd:FuncData}{N ps:List Str}{k:Nat}{sp:Sp}(F:Fun K x qual st f fd)(hn:PySem.W.nsIn K mainGlobals x=some (some (.ref f)))(hT:PySem.W.tabIn K x=some (c,T))(S:FnScope N ps (defScope st))(len:∀vs H Q E,sp vs H Q E->vs.length=ps.length)
 (hbody:∀(A:Around)(outer:List Env)(s:Shared)(H:Hp)(vs:List V)(Q:VK)(E:XK),Room k (A.deeper (envOfC qual (defScope st) s.heap.objs.size f (.ref c)))->sp vs H Q E->
  ∃t,PSs (W2 CX0 P w K mg base N qual (defScope st) f (.ref c) A outer s H E).nox (defBody st) t/\t { nx:=λ_ H'=>Q .non H',rt:=Q } (start N vs) H):FnOk P w K mg base CX0 (k+1) f fd ps sp:=by
 obtain⟨oc,od,kV,Y,pm,an,G,ct,Z,rfl,J,L⟩:=F.ex;have e:G=.ref c:=Oq hn J hT;subst e;refine ON J L S len λA outer s H vs Q E U M=>?_;obtain⟨t,h,q⟩:=hbody A outer s H vs Q E U M;exact⟨t,h.nox,q⟩
end
end L2
namespace L2
open PySem PySem.Spec PyProof.Rows
end L2
namespace L2
open PySem PySem.Spec PyProof.Rows
section
variable{X:Cx}{pins:List (8:)}{σ:St}{H H':Hp}{s s':Shared}
end
section
variable{P:Program}{w:World}{K:Fg}{mg:Str->Option Value}{base:Heap}{N:List Str}{qual:Str}{scope:Scope}{f:Addr}{cd:Value}{A:Around}{outer:List Env}{s:Shared}{H:Hp}{E:XK}
end
end L2
namespace L2
open PySem PySem.Spec PyProof.Rows
section
variable{P:Program}{w:World}{K:Fg}{mg:Str->Option Value}{base:Heap}{N:List Str}{qual:Str}{scope:Scope}{f:Addr}{cd:Value}{A:Around}{outer:List Env}{s:Shared}{H:Hp}{E:XK}
end
end L2
namespace L2
open PySem PySem.Spec PyProof.Rows
section
variable{X:Cx}
end
section
variable{P:Program}{w:World}{K:Fg}{mg:Str->Option Value}{base:Heap}{N:List Str}{qual:Str}{scope:Scope}{f:Addr}{cd:Value}{A:Around}{outer:List Env}{s:Shared}{H:Hp}{E:XK}
end
section
variable{X:Cx}{pins:List (8:)}{σ:St}{H:Hp}{s:Shared}{EE:St->XK}{a:Addr}
end
end L2
namespace G3
open PySem L2
inductive TupOf(K:Fg)(p:Addr)(H:Hp)(Q:VK):Prop where
 | l (ys:List V) (h:SqL K H p ys) (k:∀l H',Same H H'->SqT K H' l ys->Q (.ref l) H'):TupOf K p H Q
def rTupOf(K:Fg)(vs:List V)(H:Hp)(Q:VK):Prop:=match vs with
 | [.ref p]=>TupOf K p H Q
 | _=>False
section
variable{X:Cx}
theorem call_tupOf:QV X (.type "tuple") (rTupOf X.K):=by
 intro pins s σ H xs G Q I r h;unfold rTupOf at h;split at h
 .cases h with
  | l ys J k=>exact QW pins s σ H _ G Q I r ⟨_,ys,rfl,.inl ⟨J,λl L=>k l _ (Qe L _) (SqT.of Qb)⟩⟩
 .exact h.elim
theorem CallOk.blt{x:Str}{id:String}{r:List V->Hp->VK->Prop}(hc:QV X (.builtin id) r)(hm:X.mg x=none)(hv:bootBuiltins x=some (.builtin id))(hn:x≠"__name__":=by decide):CallOk X x (λ_ vs H Q=>r vs H Q):=
 ⟨λp pos e es t G J L M hp=>Qn hc J hm hv G hn L M hp⟩
theorem CallOk.ty{x:Str}{T:String}{r:List V->Hp->VK->Prop}(hc:QV X (.type T) r)(hm:X.mg x=none)(hv:bootBuiltins x=some (.type T))(hn:x≠"__name__":=by decide):CallOk X x (λ_ vs H Q=>r vs H Q):=
 ⟨λp pos e es t G J L M hp=>QR hc J hm hv G hn L M hp⟩
end
end G3
namespace G3
open PySem L2
def shCmp(op:CmpOp):Expr->Option (List Expr)
 | .Compare a [o] [b] _=>if decide (o=op)&& !(behindInMarks op b)then some [a,b]else none
 | _=>none
def shIx:Expr->Option (List Expr)
 | .Subscript a b _=>if ord b then some [a,b]else none
 | _=>none
def shBin(op:Operator):Expr->Option (List Expr)
 | .BinOp a o b _=>if o=op then some [a,b]else none
 | _=>none
def shSlTo:Expr->Option (List Expr)
 | .Subscript a (.Slice none (some h) none _) _=>some [a,h]
 | _=>none
def shSlFrom:Expr->Option (List Expr)
 | .Subscript a (.Slice (some l) none none _) _=>some [a,l]
 | _=>none
def on2(r:R2):List V->Hp->VK->Prop:=λvs H Q=>match vs with
 | [x,y]=>r x y H Q
 | _=>False
def on1(r:V->Hp->VK->Prop):List V->Hp->VK->Prop:=λvs H Q=>match vs with
 | [x]=>r x H Q
 | _=>False
section
variable{X:Cx}
theorem PEs.two{a b:Expr}{ts:List TE}(h:PEs X [a,b] ts):∃t u,ts=[t,u]/\PE X a t/\PE X b u:=by
 cases h with
 | cons h1 h=>cases h with
  | cons h2 h=>cases h with
   | nil=>exact⟨_,_,rfl,h1,h2⟩
theorem PEs.one{a:Expr}{ts:List TE}(h:PEs X [a] ts):∃t,ts=[t]/\PE X a t:=by
 cases h with
 | cons h1 h=>cases h with
  | nil=>exact⟨_,rfl,h1⟩
theorem NodeOk.plain{sh:Expr->Option (List Expr)}{r:List V->Hp->VK->Prop}(h:∀(e:Expr)(es:List Expr)(ts:List TE),sh e=some es->PEs X es ts->PE X e (λσ H Q=>VQ ts σ H λvs H1=>r vs H1 Q)/\tst e=true):NodeOk X sh r:=
 ⟨λe es ts G hp=>(h e es ts G hp).1,λe es ts G hp=>(pvT (h e es ts G hp).1 (h e es ts G hp).2).2⟩
theorem NodeOk.cmp{op:CmpOp}{r:R2}(ho:OpR X (compareOp op) r):NodeOk X (shCmp op) (on2 r):=by
 have J:∀(e:Expr)(es:List Expr),shCmp op e=some es->∃a b p,e=.Compare a [op] [b] p/\es=[a,b]/\behindInMarks op b=false:=λe es G=>by
  unfold shCmp at G;split at G
  .split at G
   .rename_i L;cases G;rw [Bool.and_eq_true]at L;rw [of_decide_eq_true L.1];exact⟨_,_,_,rfl,rfl,by simpa using L.2⟩
   .cases G
  .cases G
 refine⟨λe es U G h=>?_,λe es U G h=>?_⟩
 .obtain⟨a,b,p,rfl,rfl,M⟩:=J e es G;obtain⟨t,u,rfl,h1,h2⟩:=h.two;exact ZH ho h1 h2 M
 .obtain⟨a,b,p,rfl,rfl,M⟩:=J e es G;obtain⟨t,u,rfl,h1,h2⟩:=h.two;exact YF (Qr (L5 ho) (pe_up h1) (pe_up h2) M) λσ H Q q=>⟨_,q,λx H1 q=>⟨_,q,λy H2 q=>⟨_,q,λz Y q=>UA q⟩⟩⟩
theorem NodeOk.bin{op:Operator}{r:R2}(ho:OpR X (binaryOp op) r):NodeOk X (shBin op) (on2 r):=.plain λe es L G h=>by
 unfold shBin at G;split at G
 .split at G
  .rename_i J;cases G;obtain⟨t,u,rfl,h1,h2⟩:=h.two;rw [J];exact⟨Qs ho h1 h2,rfl⟩
  .cases G
 .cases G
def asI(x:V)(k:Int->Prop):Prop:=match x with
 | .int i=>k i
 | _=>False
theorem NC{x:V}{k:Int->Prop}(h:asI x k):∃i,x=.int i/\k i:=by
 unfold asI at h;split at h
 .exact⟨_,rfl,h⟩
 .exact h.elim
theorem NodeOk.slTo{r:V->Option Int->Option Int->Hp->VK->Prop}(hr:SlR X r):NodeOk X shSlTo (on2 λx y H Q=>asI y λi=>r x none (some i) H Q):=.plain λe es J G h=>by
 unfold shSlTo at G;split at G
 .cases G;obtain⟨t,u,rfl,h1,h2⟩:=h.two;exact⟨pe_mono (Jt hr (pe_up h1) XL (XH (pe_up h2))) λσ H Q q=>⟨_,q,λx H1 q=>⟨_,q,λy H2 q=>NC q⟩⟩,rfl⟩
 .cases G
theorem NodeOk.slFrom{r:V->Option Int->Option Int->Hp->VK->Prop}(hr:SlR X r):NodeOk X shSlFrom (on2 λx y H Q=>asI y λi=>r x (some i) none H Q):=.plain λe es J G h=>by
 unfold shSlFrom at G;split at G
 .cases G;obtain⟨t,u,rfl,h1,h2⟩:=h.two;exact⟨pe_mono (Jt hr (pe_up h1) (XH (pe_up h2)) XL) λσ H Q q=>⟨_,q,λx H1 q=>⟨_,q,λy H2 q=>NC q⟩⟩,rfl⟩
 .cases G
end
end G3
namespace G3
open PySem L2
structure Cxt(X:Cx)(P:Program)(w:World)(K:Fg)(mg:Str->Option Value)(base:Heap)(k:Nat):Prop where
 p:X.prog=P
 w:X.w=w
 K:X.K=K
 m:X.mg=mg
 b:X.base=base
 r:Room k X.A
 c:X.calm=true
inductive Calls(X:Cx):List Str->List Rel->Prop where
 | nil:Calls X [] []
 | cons {x:Str} {r:Rel} {xs:List Str} {rs:List Rel}:CallOk X x r->Calls X xs rs->Calls X (x::xs) (r::rs)
inductive Meths(X:Cx):List Str->List Mr->Prop where
 | nil:Meths X [] []
 | cons {x:Str} {r:Mr} {xs:List Str} {rs:List Mr}:MethOk X x r->Meths X xs rs->Meths X (x::xs) (r::rs)
inductive Nodes(X:Cx):List (Expr->Option (List Expr))->List (56:)->Prop where
 | nil:Nodes X [] []
 | cons {x:Expr->Option (List Expr)} {r:List V->Hp->VK->Prop} {xs:List (Expr->Option (List Expr))} {rs:List (56:)}:NodeOk X x r->Nodes X xs rs->Nodes X (x::xs) (r::rs)
theorem Calls.at{X:Cx}:∀{xs:List Str}{rs:List Rel},Calls X xs rs->∀(i:Nat) y,xs[i]?=some y->∃r,rs[i]?=some r/\CallOk X y r
 | _,_,.nil,i,y,e=>by simp at e
 | _,_,.cons h _,0,y,e=>by cases e;exact⟨_,rfl,h⟩
 | _,_,.cons _ h,i+1,y,e=>h.at i y e
theorem Meths.at{X:Cx}:∀{xs:List Str}{rs:List Mr},Meths X xs rs->∀(i:Nat) y,xs[i]?=some y->∃r,rs[i]?=some r/\MethOk X y r
 | _,_,.nil,i,y,e=>by simp at e
 | _,_,.cons h _,0,y,e=>by cases e;exact⟨_,rfl,h⟩
 | _,_,.cons _ h,i+1,y,e=>h.at i y e
theorem Nodes.at{X:Cx}:∀{xs:List (Expr->Option (List Expr))}{rs:List (56:)},Nodes X xs rs->∀(i:Nat) y,xs[i]?=some y->∃r,rs[i]?=some r/\NodeOk X y r
 | _,_,.nil,i,y,e=>by simp at e
 | _,_,.cons h _,0,y,e=>by cases e;exact⟨_,rfl,h⟩
 | _,_,.cons _ h,i+1,y,e=>h.at i y e
section
variable{X:Cx}{P:Program}{w:World}{K:Fg}{mg:Str->Option Value}{base:Heap}{k:Nat}
theorem Cxt.fn(c:Cxt X P w K mg base k){j:Nat}{x:Str}{ps:List Str}{sp:Sp}(F:Fn P w K mg base j x ps sp)(hk:j<=k:=by decide):CallOk X x (λ_ vs H Q=>sp vs H Q E0):=by
 obtain⟨rfl,rfl,rfl,rfl,rfl,G,J⟩:=c;exact .fn F G hk
theorem Cxt.ty(c:Cxt X P w K mg base k){x:Str}{T:String}{r:Fg->List V->Hp->VK->Prop}(hc:∀X:Cx,QV X (.type T) (r X.K))(hm:mg x=none)(hv:bootBuiltins x=some (.type T))(hn:x≠"__name__":=by decide):CallOk X x (λ_ vs H Q=>r K vs H Q):=by
 obtain⟨rfl,rfl,rfl,rfl,rfl,J,G⟩:=c;exact .ty (hc X) hm hv hn
theorem Cxt.blt(c:Cxt X P w K mg base k){x:Str}{id:String}{r:Fg->List V->Hp->VK->Prop}(hc:∀X:Cx,QV X (.builtin id) (r X.K))(hm:mg x=none)(hv:bootBuiltins x=some (.builtin id))(hn:x≠"__name__":=by decide):CallOk X x (λ_ vs H Q=>r K vs H Q):=by
 obtain⟨rfl,rfl,rfl,rfl,rfl,J,G⟩:=c;exact .blt (hc X) hm hv hn
theorem Cxt.meth(c:Cxt X P w K mg base k){x:Str}{r:Fg->Mr}(h:∀X:Cx,MethOk X x (r X.K)):MethOk X x (r K):=by
 obtain⟨rfl,rfl,rfl,rfl,rfl,J,G⟩:=c;exact h X
theorem Cxt.node(c:Cxt X P w K mg base k){sh:Expr->Option (List Expr)}{r:Fg->List V->Hp->VK->Prop}(h:∀X:Cx,NodeOk X sh (r X.K)):NodeOk X sh (r K):=by
 obtain⟨rfl,rfl,rfl,rfl,rfl,J,G⟩:=c;exact h X
end
section
variable{X:Cx}{P:Program}{w:World}{K:Fg}{mg:Str->Option Value}{base:Heap}{k:Nat}
theorem Cxt.nodeR(c:Cxt X P w K mg base k){sh:Expr->Option (List Expr)}{r:Fg->List V->Hp->VK->Prop}(h:∀X:Cx,Room k X.A->NodeOk X sh (r X.K)):NodeOk X sh (r K):=by
 obtain⟨rfl,rfl,rfl,rfl,rfl,G,J⟩:=c;exact h X G
end
theorem Fun.okC{P:Program}{w:World}{K:Fg}{mg:Str->Option Value}{base:Heap}{x qual:Str}{st:Stmt}{f:Addr}{fd:FuncData}{N ps fn mt:List Str}{nk:List (Expr->Option (List Expr))}{k:Nat}{sp:Sp}(F:Fun K x qual st f fd)(S:FnScope N ps (defScope st))(n:En)(c:List G3.S)
 (hcx:∀X:Cx,Cxt X P w K mg base k->Calls X fn n.fs/\Meths X mt n.ms/\Nodes X nk n.nr)
 (len:∀vs H Q E,sp vs H Q E->vs.length=ps.length)
 (hb:∀(H:Hp)(vs:List V)(Q:VK)(E:XK),sp vs H Q E->ES n c { nx:=λ_ H'=>Q .non H',rt:=Q } (start N vs) H)
 (hm:mg "range"=none) (hc:chS ⟨N,defScope st,fn,mt,nk,[]⟩ c (defBody st)=true:=by decide+kernel) (hn:n.K=K:=by rfl):FnOk P w K mg base CX0 (k+1) f fd ps sp:=by
 obtain⟨J,fs,ms,nr,sr⟩:=n;have hn:J=K:=hn;subst hn;exact F.ok S len λL A outer s H vs Q E G h=>⟨_,snS (X:=(W2 CX0 P w J mg base N qual (defScope st) f L A outer s H E).nox) (fs:=fs) (ms:=ms) (nr:=nr) (sr:=sr) ⟨⟨rfl,rfl,λX f i y e=>(hcx X ⟨f.p,f.w,f.K,f.m,f.b,by rw [f.A];exact G,f.c⟩).1.at i y e,λX f i y e=>(hcx X ⟨f.p,f.w,f.K,f.m,f.b,by rw [f.A];exact G,f.c⟩).2.1.at i y e,λX f i y e=>(hcx X ⟨f.p,f.w,f.K,f.m,f.b,by rw [f.A];exact G,f.c⟩).2.2.at i y e,rfl,hm⟩,S.nd,λ_=>rfl,PassesOwn.never,λi y e=>by simp at e⟩ c _ hc,hb H vs Q E h⟩
inductive EqD(K:Fg)(neg:Bool)(x y:V)(H:Hp)(Q:VK):Prop where
 | e (d e:PyData) (h1:RdV K H x d) (h2:RdV K H y e) (c1:d.canLay0=true) (c2:e.canLay0=true) (hu:min d.depth e.depth<=190) (q:Q (.bl (if neg then !PyData.eqv d e else PyData.eqv d e)) H):EqD K neg x y H Q
theorem Cxt.eqD{X:Cx}{P:Program}{w:World}{K:Fg}{mg:Str->Option Value}{base:Heap}{k:Nat}(c:Cxt X P w K mg base k):NodeOk X (shCmp .Eq) (on2 (EqD K false)):=by
 obtain⟨rfl,rfl,rfl,rfl,rfl,G,Y⟩:=c;refine .cmp λpins s σ H x y v u Q I J L h=>?_;cases h with
 | e d e h1 h2 M U Z q=>exact Jf pins s σ H x y v u Q I J L ⟨d,e,h1,h2,M,U,by have:=G.un;lia,q⟩
theorem Cxt.neD{X:Cx}{P:Program}{w:World}{K:Fg}{mg:Str->Option Value}{base:Heap}{k:Nat}(c:Cxt X P w K mg base k):NodeOk X (shCmp .NotEq) (on2 (EqD K true)):=by
 obtain⟨rfl,rfl,rfl,rfl,rfl,G,Y⟩:=c;refine .cmp λpins s σ H x y v u Q I J L h=>?_;cases h with
 | e d e h1 h2 M U Z q=>exact Jv pins s σ H x y v u Q I J L ⟨d,e,h1,h2,M,U,by have:=G.un;lia,q⟩
inductive Len(K:Fg)(p:Addr)(H:Hp)(Q:VK):Prop where
 | l (ys:List V) (h:SqL K H p ys) (k:Q (.int ys.length) H):Len K p H Q
 | t (ys:List V) (h:SqT K H p ys) (k:Q (.int ys.length) H):Len K p H Q
def rLen(K:Fg)(vs:List V)(H:Hp)(Q:VK):Prop:=match vs with
 | [.ref p]=>Len K p H Q
 | _=>False
theorem call_len(X:Cx):QV X (.builtin "len") (rLen X.K):=by
 intro pins s σ H xs J Q I r h;unfold rLen at h;split at h
 .cases h with
  | l ys G k=>exact Qm pins s σ H _ J Q I r ⟨_,ys,rfl,.inl G,k⟩
  | t ys G k=>exact Qm pins s σ H _ J Q I r ⟨_,ys,rfl,.inr G,k⟩
 .exact h.elim
end G3
namespace G3
open PySem L2
def rInt(_:Fg)(vs:List V)(H:Hp)(Q:VK):Prop:=match vs with
 | [.int i]=>Q (.int i) H
 | [.bl b]=>Q (.int (if b then 1 else 0)) H
 | _=>False
theorem call_int(X:Cx):QV X (.type "int") (rInt X.K):=by
 intro pins s σ H xs G Q I r h;unfold rInt at h;split at h
 .exact Uq pins s σ H _ G Q I r (.inl ⟨_,rfl,h⟩)
 .exact Uq pins s σ H _ G Q I r (.inr ⟨_,rfl,h⟩)
 .exact h.elim
def mApp(K:Fg):Mr:=⟨tyV K "list",Gp⟩
theorem m_append(X:Cx):MethOk X "append" (mApp X.K):=.bm PySem.F.plainAttrs_list PySem.F.slot_list_append PySem.F.type_list_append QN
theorem tyL{K:Fg}{l:Addr}{xs:List V}{H:Hp}(h:H l=some (.lst xs)):tyV K "list" (.ref l) H:=.inl ⟨rfl,xs,SqL.of h⟩
end G3
namespace G3
open PySem L2
end G3
namespace K70
open PySem L2 TM TT ST K9 K11
def nam:Tree Str->Str
 | .node n _ _=>n
def mrk:Tree Str->Int
 | .node _ m _=>m
mutual
noncomputable def MM(ks:List KdT)(ms:List MdT):Nat->Int->Tree Str->Tree Str->Prop
 | 0,_,_,_=>False
 | n+1,m,T,u=>∃(md:MdT)(kd:KdT)(j:Nat)(r:PNx)(t:Tm),0<=m/\ms[m.toNat]?=some md/\kd∈ks/\kd.2.1=md.2.1/\md.2.2.2.2.length=kd.2.2.2.length/\kd.2.2.2[j]?=some r/\r.2.1=nam T/\md.2.2.2.2[j]?=some t/\MB ks ms n t T u
noncomputable def MB(ks:List KdT)(ms:List MdT):Nat->Tm->Tree Str->Tree Str->Prop
 | 0,_,_,_=>False
 | n+1,t,T,u=>match lab t with
  | .call m b=>∃c,0<=b/\T.bs[b.toNat]?=some c/\MM ks ms n m c u
  | .put nm k a=>∃us:List (40:),u=.node nm (if k=true then a+mrk T else a) us/\us.length=t.bs.length/\∀(i:Nat) p q,t.bs[i]?=some p->us[i]?=some q->MB ks ms n p T q
end
structure GT(l:Nat)(u:Tree Str):Prop where
 lv:lv u<=l
 ok:(td u).canLay0=true
 dp:(td u).depth<=2*l
theorem GT.mono{l l':Nat}{u:Tree Str}(h:GT l u)(e:l<=l'):GT l' u:=⟨Nat.le_trans h.lv e,h.ok,Nat.le_trans h.dp (3:)⟩
theorem GT.put{l:Nat}{n:Str}{m:Int}{us:List (40:)}(hn:PyData.strOk n=true)(h:∀u∈us,GT l u):GT (l+1) (.node n m us):=by
 have J:∀us:List (40:),(∀u∈us,GT l u)->PyData.canLayAll0 (tds us)=true/\PyData.depthAll (tds us)<=2*l/\lvs us<=l:=λus=>by
  induction us with
  | nil=>intro _;simp [tds,PyData.canLayAll0,PyData.depthAll,lvs]
  | cons a r L=>
   intro h;obtain⟨i1,i2,i3⟩:=L λu M=>h u (List.mem_cons_of_mem _ M);have G:=h a List.mem_cons_self;have:=G.lv;have:=G.dp;simp only [tds,PyData.canLayAll0,PyData.depthAll,lvs,G.ok,i1,Bool.and_self,true_and];lia
 obtain⟨i1,i2,i3⟩:=J us h;refine⟨by rw [Q4];show 1+lvs us<=_;lia,?_,?_⟩
 .simp only [td,PyData.canLay0,PyData.canLayAll0,hn,i1,Bool.and_self]
 .simp only [td,PyData.depth,PyData.depthAll];lia
theorem GH{α β:Type}{R:α->β->Prop}:∀{l:List α},(∀a∈l,∃b,R a b)->∃bs:List β,bs.length=l.length/\∀(i:Nat) a b,l[i]?=some a->bs[i]?=some b->R a b
 | [],_=>⟨[],rfl,λi a b h=>(nomatch h)⟩
 | x::l,h=>by
  obtain⟨b,L⟩:=h x List.mem_cons_self;obtain⟨bs,e,M⟩:=GH λa G=>h a (19:);refine⟨b::bs,by simp [e],λi a c G J=>?_⟩;cases i with
  | zero=>cases G;cases J;exact L
  | succ i=>exact M i a c (by simpa using G) (by simpa using J)
section
variable{ks:List KdT}{ms:List MdT}{st:Tm}{c:Int}
theorem LM{M L:Nat}(hL:1<=L){T:Tree Str}{cs:List (Int×Int)}(hP:∀x∈cs,∃(k j:Nat)(b:Tree Str),x=((k:Int),(j:Int))/\T.bs[j]?=some b/\∀n,M<=n->∃u,MM ks ms n (k:Int) b u/\GT L u):
 ∀(q:Nat)(t:Tm),lv t<=q->TDr cs t->∀n,q+M<=n->∃u,MB ks ms n t T u/\GT (q-1+L) u
 | 0,t,h,_,_,_=>by rw [Q4]at h;lia
 | q+1,t,h,G,n,hn=>by
  obtain⟨J,rfl⟩: ∃J,n=J+1:=⟨n-1,by lia⟩
  match t,h,G with
  | .node (.call m b) mk bs,h,G=>
   rw [TDr]at G;obtain⟨k,j,br,e,Z,hM⟩:=hP _ G;obtain⟨e1,e2⟩:=Prod.mk.inj e;obtain⟨u,U,hg⟩:=hM J (3:);refine⟨u,?_,hg.mono (3:)⟩;rw [MB];exact⟨br,by lia,by rw [e2,Int.toNat_natCast];exact Z,by rw [e1];exact U⟩
  | .node (.put nm k a) mk bs,h,G=>
   rw [TDr]at G;obtain⟨h1,h2,h3⟩:=G;rw [Ze]at h3;rw [Q4]at h;have Y:∀b∈bs,lv b<=q:=λb Z=>by
    have:=Yg Z;have:lvs (Tree.bs (.node (Lab.put nm k a) mk bs))=lvs bs:=rfl;lia
   obtain⟨us,ul,U⟩:=GH (R:=λp u=>MB ks ms J p T u/\GT (q-1+L) u/\1<=q) (l:=bs) λp hp=>by
    obtain⟨u,a1,a2⟩:=LM hL hP q p (Y p hp) (h3 p hp) J (3:);have:=Y p hp;rw [Q4]at this;exact⟨u,a1,a2,by lia⟩
   refine⟨.node nm (if k=true then a+mrk T else a) us,?_,?_⟩
   .rw [MB];exact⟨us,rfl,ul,λi p q' hp hq=>(U i p q' hp hq).1⟩
   .refine(GT.put (l:=q+L-1) h1 λu hm=>?_).mono (3:);obtain⟨i,hi,rfl⟩:=List.getElem_of_mem hm;obtain⟨_,a2,a3⟩:=U i _ _ (List.getElem?_eq_getElem (show i<bs.length by lia)) (24:);exact a2.mono (3:)
end
end K70
namespace K70
open PySem L2 TM TT ST K9 K11
def Ue(K:Fg)(n:Nat):Sp:=λvs H Q _=>∃(tu wd lm:Addr)(sv:V)(ks:List KdT)(st:Tm)(ms:List MdT)(m:Int)(v:V)(T u:Tree Str),vs=[.ref tu,.int m,v]/\TurnD K H tu wd lm sv ks st ms/\WoodOk ks/\TrV K H v T/\MM ks ms n m T u/\∀(v':V)(H':Hp),Same H H'->TrV K H' v' u->Q v' H'
def XF(K:Fg)(n:Nat):Sp:=λvs H Q _=>∃(tu wd lm:Addr)(sv:V)(ks:List KdT)(st:Tm)(ms:List MdT)(tv v:V)(t:Tm)(T u:Tree Str),vs=[.ref tu,tv,v]/\TurnD K H tu wd lm sv ks st ms/\WoodOk ks/\TmV K H tv t/\TrV K H v T/\MB ks ms n t T u/\∀(v':V)(H':Hp),Same H H'->TrV K H' v' u->Q v' H'
def SE:List G3.S:=[.ret (.call 0 [.v 0,.call 1 [.v 0,.v 1,.ix (.v 2) (53:)],.v 2])]
def R0(K:Fg)(n:Nat):G3.En:=⟨K,[λ_ vs H Q=>XF K n vs H Q E0,λ_ vs H Q=>Ws K vs H Q E0],[],[],[]⟩
def cMB:List G3.S:=[.ite (.cmp .Eq (.ix (.v 1) (53:)) (.k (.str "call"))) [.ret (.call 0 [.v 0,.ix (.v 1) (.k (.int 1)),.ix (.ix (.v 2) (.k (.int 2))) (.ix (.v 1) (.k (.int 2)))])] [],.setC 3 (.comp 2 (.ix (.v 1) (.k (.int 4))) [2,0] (.call 1 [.v 2,.v 0,.v 1])),.ret (.tup [.ix (.v 1) (.k (.int 1)),.bin .Add (.ix (.v 1) (.k (.int 3))) (.bin .Mult (.ix (.v 2) (.k (.int 1))) (.call 2 [.ix (.v 1) (.k (.int 2))])),.call 3 [.v 3]])]
def nMB(K:Fg)(n:Nat):G3.En:=⟨K,[λ_ vs H Q=>Ue K n vs H Q E0,λ_ vs H Q=>XF K n vs H Q E0,λ_ vs H Q=>G3.rInt K vs H Q,λ_ vs H Q=>G3.rTupOf K vs H Q],[],[],[]⟩
theorem tmS{K:Fg}{H H':Hp}{v:V}{t:Tm}(g:Same H H')(h:TmV K H v t):TmV K H' v t:=h.mono λ_ _=>g.seqT
theorem trS{K:Fg}{H H':Hp}{v:V}{t:Tree Str}(g:Same H H')(h:TrV K H v t):TrV K H' v t:=h.mono λ_ _=>g.seqT
theorem ZQ{K:Fg}{H:Hp}{v:V}{T:Tree Str}(h:TrV K H v T):∃a b vs,v=.ref a/\SqT K H a [.str (nam T),.int (mrk T),.ref b]/\SqT K H b vs/\TrAll K H vs T.bs/\vs.length<=1000:=by
 cases h with
 | mk h1 h2 G J=>exact⟨_,_,_,rfl,h1,h2,G,J⟩
section
variable{P:Program}{w:World}{K:Fg}{mg:Str->Option Value}{base:Heap}{f:Addr}{fd:FuncData}
theorem P9:FnScope ["_law_turning_here","_law_mode","_law_tree_here"] ["_law_turning_here","_law_mode","_law_tree_here"] (defScope Xd):=(1:)
theorem N2{n:Nat}(F:Fun K "_law_made" "_law_made" Xd f fd)(G:Gm mg)(RB:Fn P w K mg base (n+3) "_law_made_by" ["_law_turning_here","_law_term_here","_law_tree_here"] (XF K n))(RO:Fn P w K mg base 2 "_law_rule_of" ["_law_turning_here","_law_mode","_law_name_here"] (Ws K)):FnOk P w K mg base CX0 (n+4) f fd ["_law_turning_here","_law_mode","_law_tree_here"] (Ue K (n+1)):=by
 refine G3.Fun.okC F P9 (R0 K n) SE (λX c=>⟨.cons (c.fn RB (5:)) (.cons (c.fn RO (3:)) .nil),.nil,.nil⟩) (7:) (λH vs Q E h=>?_) G.rng
 .obtain⟨J,wd,L,M,ks,st,ms,m,v,T,u,rfl,_⟩:=h
  rfl
 obtain⟨J,wd,L,M,ks,st,ms,m,v,T,u,rfl,Y,Z,hv,hM,q⟩:=h;obtain⟨a,b,vs,rfl,h1,h2,h3,h4⟩:=ZQ hv;rw [MM]at hM;obtain⟨md,kd,j,r,t,a1,a2,a3,a4,a5,a6,a7,a8,a9⟩:=hM;refine .t _ _ h1 rfl ⟨J,wd,L,M,ks,st,ms,m.toNat,md,kd,j,r,t,?_,Y,Z,a2,a3,a4,a5,a6,a8,λtv H1 U aa=>?_⟩
 .rw [Int.toNat_of_nonneg a1,a7]
 exact⟨J,wd,L,M,ks,st,ms,tv,.ref a,t,T,u,rfl,Y.same U,Z,aa,trS U hv,a9,λv' H' g ab=>q v' H' (U.trans g) ab⟩
theorem TJ:FnScope ["_law_turning_here","_law_term_here","_law_tree_here","_law_parts"] ["_law_turning_here","_law_term_here","_law_tree_here"] (defScope sMB):=(1:)
theorem Rp{n:Nat}(F:Fun K "_law_made_by" "_law_made_by" sMB f fd)(G:Gm mg)(RM:Fn P w K mg base (n+3) "_law_made" ["_law_turning_here","_law_mode","_law_tree_here"] (Ue K n))(RB:Fn P w K mg base (n+3) "_law_made_by" ["_law_turning_here","_law_term_here","_law_tree_here"] (XF K n)):FnOk P w K mg base CX0 (n+4) f fd ["_law_turning_here","_law_term_here","_law_tree_here"] (XF K (n+1)):=by
 refine G3.Fun.okC F TJ (nMB K n) cMB (λX c=>⟨.cons (c.fn RM (5:)) (.cons (c.fn RB (5:)) (.cons (c.ty G3.call_int G.int PyProof.Rows.boot_int) (.cons (c.ty (λ_=>G3.call_tupOf) G.tup PyProof.Rows.boot_tuple) .nil))),.nil,.nil⟩) (7:) (λH vs Q E h=>?_) G.rng
 .obtain⟨tu,wd,lm,sv,ks,st,ms,tv,v,t,T,u,rfl,_⟩:=h
  rfl
 obtain⟨tu,wd,lm,sv,ks,st,ms,tv,v,t,T,u,rfl,hT,hO,ad,hv,L,q⟩:=h;obtain⟨a,b,vs,rfl,r1,r2,r3,r4⟩:=ZQ hv;rw [MB]at L;rcases YX ad with⟨ta,m,br,rfl,rfl,h1⟩ | ⟨ta,tb,ab,tn,tk,M,rfl,ae,h1,h2,h3,h4⟩
 .obtain⟨c,a1,a2,a3⟩:=L;obtain⟨U,Y,Z⟩:=r3.get a2;exact .t _ _ h1 rfl<| .t _ _ h1 rfl<| .t _ _ r1 rfl<| .t _ _ h1 rfl<| .t _ U r2 (by rw [<-Int.toNat_of_nonneg a1];exact QB Y) ⟨tu,wd,lm,sv,ks,st,ms,m,U,c,u,rfl,hT,hO,Z,a3,q⟩
 have af:lab t=.put tn tk M:=by rw [ae];rfl
 rw [af]at L;obtain⟨us,rfl,aj,L⟩:=L;have ai:=h3.length;refine .t _ _ h1 rfl<| .t _ _ h1 rfl<| .t ab h2<| .s (λi ys H'=>ys.length=i/\TrAll K H' ys (us.take i)) (λH1 g=>⟨rfl,.nil⟩) (λacc i ys l H1 H2 h _ _ _ k=>⟨h.1,h.2.mono k⟩) (3:) (λi ys H1 hi _ g h=>?_) λp ys H1 g hp h=>?_
 .obtain⟨c,hc⟩: ∃c,t.bs[i]?=some c:=(26:);have ho:=List.getElem?_eq_getElem (show i<us.length by lia);obtain⟨U,Y,Z⟩:=h3.get hc;have ex:(ab[i]?).getD .non=U:=by rw [Y];rfl
  rw [ex];refine⟨tu,wd,lm,sv,ks,st,ms,U,.ref a,c,T,us[i],rfl,hT.same g,hO,tmS g Z,trS g hv,L i c _ hc ho,λv' H4 g4 ag=>⟨g4,by simp [h.1],?_⟩⟩;rw [List.take_add_one,ho];exact TrAll.append (h.2.mono λ_ _=>g4.seqT) (.cons ag .nil)
 obtain⟨hl,ac⟩:=h;rw [List.take_of_length_le (3:)]at ac;have aa:=g.seqT h1;have ah:=g.seqT r1;have fin:∀z:Int,z=(if tk=true then M+mrk T else M)->∀(pt pr:Addr)(H2 J:Hp),Same H1 H2->SqT K H2 pt ys->Same H2 J->SqT K J pr [.str tn,.int z,.ref pt]->Q (.ref pr) J:=λz ez pt pr H2 J g2 d2 g3 d3=>by
  refine q _ J (g.trans (g2.trans g3)) ?_;rw [<-ez];exact .mk d3 (g3.seqT d2) (ac.mono λ_ _=>(g2.trans g3).seqT) (3:)
 refine .t _ _ aa rfl<| .t _ _ aa rfl<| .t _ _ ah rfl<| .t _ _ aa rfl ⟨.inr ?_,.l ys (SqL.of hp) λpt H2 g2 d2=>⟨λpr J g3 d3 _=>fin _ ?_ pt pr H2 J g2 d2 g3 d3⟩⟩
 .cases tk<;>exact(37:)
 .cases tk with
  | true=>simp
  | false=>simp
theorem Jj{fM fB:Addr}{fdM fdB:FuncData}(FM:Fun K "_law_made" "_law_made" Xd fM fdM)(FB:Fun K "_law_made_by" "_law_made_by" sMB fB fdB)(G:Gm mg)(RO:Fn P w K mg base 2 "_law_rule_of" ["_law_turning_here","_law_mode","_law_name_here"] (Ws K))(bM:Binds K fdM ["_law_turning_here","_law_mode","_law_tree_here"] [])(bB:Binds K fdB ["_law_turning_here","_law_term_here","_law_tree_here"] [])(hM:mg "_law_made"=some (.ref fM))(hB:mg "_law_made_by"=some (.ref fB)):∀n:Nat,FnOk P w K mg base CX0 (n+3) fM fdM ["_law_turning_here","_law_mode","_law_tree_here"] (Ue K n)/\FnOk P w K mg base CX0 (n+3) fB fdB ["_law_turning_here","_law_term_here","_law_tree_here"] (XF K n)
 | 0=>⟨⟨λvs H Q E h=>by obtain⟨J,wd,L,M,ks,st,ms,m,v,T,u,rfl,_⟩:=h;rfl,λA outer s H U Y vs Q E _ _ _ _ h=>by obtain⟨J,wd,L,M,ks,st,ms,m,v,T,u,_,_,_,_,hM,_⟩:=h;rw [MM]at hM;exact hM.elim⟩,⟨λvs H Q E h=>by obtain⟨J,wd,L,M,ks,st,ms,tv,v,t,T,u,rfl,_⟩:=h;rfl,λA outer s H U Y vs Q E _ _ _ _ h=>by obtain⟨J,wd,L,M,ks,st,ms,tv,v,t,T,u,_,_,_,_,_,hM,_⟩:=h;rw [MB]at hM;exact hM.elim⟩⟩
 | n+1=>by
  obtain⟨h1,h2⟩:=Jj FM FB G RO bM bB hM hB n;exact⟨N2 FM G ⟨fB,fdB,h2,bB,FB.kp,hB⟩ RO,Rp FB G ⟨fM,fdM,h1,bM,FM.kp,hM⟩ ⟨fB,fdB,h2,bB,FB.kp,hB⟩⟩
end
end K70
namespace L2
open PySem PySem.Spec PyProof.Rows
def Sub(g h:Heap):Prop:=∀b o,g.get? b=some o->h.get? b=some o
section
variable{X:Cx}{pins:List (8:)}{σ:St}{H:Hp}{s:Shared}
end
section
variable{X:Cx}
end
end L2
namespace L2
open PySem PySem.Spec PyProof.Rows
structure ClAt(base:Heap)(N:List Str)(cl:List (Str×Addr))(vs:List V):Prop where
 len:vs.length=N.length
 val:∀(i:Nat)(x:Str)(v:V),N[i]?=some x->vs[i]?=some v->∃c u,cl.lookup x=some c/\base.IsCell c (some u)/\RelV v u
 cel:∀x c,cl.lookup x=some c->∃u,base.IsCell c u
 inj:∀x y c,cl.lookup x=some c->cl.lookup y=some c->x=y
section
variable{X:Cx}
end
end L2
namespace K3
def Oc:List Nat:=[97,98,99,100,101,102,103,104,105,106,107,108,109,110,111,112,113,114,115,116,117,118,119,120,121,122]
def run(L:List Nat)(t:List Nat):List Nat:=t.takeWhile λc=>decide (c∈L)
def D(n:Nat):List Nat:=(Nat.toDigits 10 n).map Char.toNat
end K3
namespace K3
end K3
namespace L2
open PySem PySem.Spec PyProof.Rows
structure Mt(P:Program)(w:World)(K:Fg)(mg:Str->Option Value)(base:Heap)(C:Addr)(k:Nat)(m:Str)(ps:List Str)(sp:Sp):Prop where
 ex:∃f fd,Meth K C m f/\FnOk P w K mg base CX0 k f fd ps sp/\Binds K fd ps []
section
variable{X:Cx}{C:Addr}{k k':Nat}{m:Str}{ps:List Str}{sp:Sp}{o e:Expr}{es:List Expr}{ta:TE}{t:TA}{apos pos:Pos}
theorem MQ{pl:Sem Bool}(M:Mt X.prog X.w X.K X.mg X.base C k m ps sp)(c:Cls X.K C)(hr:Room k' X.A)(he:PE X o ta)(hk:k<=k':=by decide)
 (ht:eval (.Call (.Attribute o m apos) [] [] pos) X.env=(do
  let ov <-eval o X.env
  standAt apos.atName
  let(f,first) <-holding [ov] (getMethod ov m pl)
  callWith pos f first (backTo pos (starEach [] X.env)) (backToKw pos (keywordEach [] X.env))):=by rfl):
 PE X (.Call (.Attribute o m apos) [] [] pos) (We C m sp [] E0 ta UQ):=by
 obtain⟨f,fd,h1,h2,G⟩:=M.ex;exact M3 (pl:=pl) he c h1 h2 (hr.mono hk) G .nil Wi ht
theorem V1{pl:Sem Bool}(M:Mt X.prog X.w X.K X.mg X.base C k m ps sp)(c:Cls X.K C)(hr:Room k' X.A)(he:PE X o ta)(ha:PA X (e::es) t)(hk:k<=k':=by decide)
 (hst:starEach (e::es) X.env=(false,eval e X.env)::starEach es X.env:=by rfl) (hpl:(52:).any (·.1)=false:=by rfl)
 (ht:eval (.Call (.Attribute o m apos) (e::es) [] pos) X.env=(do
  let ov <-eval o X.env
  standAt apos.atName
  let(f,first) <-holding [ov] (getMethod ov m pl)
  callWith pos f first (backTo pos (starEach (e::es) X.env)) (backToKw pos (keywordEach [] X.env))):=by rfl):
 PE X (.Call (.Attribute o m apos) (e::es) [] pos) (We C m sp [] E0 ta t):=by
 obtain⟨f,fd,h1,h2,G⟩:=M.ex;exact N8 (pl:=pl) he c h1 h2 (hr.mono hk) G .nil Wi ha hst hpl ht
end
end L2
namespace K3
open PySem L2
def sh(m:Int):List Nat:=if m<0 then 45::D m.natAbs else D m.natAbs
end K3
namespace L2
open PySem PySem.Spec PyProof.Rows
section
variable{prog:Program}{w:World}{K:Type} [DecidableEq K] {knd:KeyKind prog w K} {A:Around} {E:Value->Shared->Prop} {s:Shared}
theorem G9{d:Addr}{kvs:List (K×Value)}{k:K}{key dflt:Value}{Q:Value->Shared->Prop}(hkey:knd.is k key=true)(hm:s.heap.DictOf knd d kvs)
 (hthere:∀v,valueAt kvs k=some v->Q v { s with toks:=s.toks+1 })
 (hnew:k∉kvs.map (·.1)->∀h':Heap,h'.DictOf knd d (kvs++[(k,dflt)])->Heap.SameBut d s.heap h'->Q dflt { s with heap:=h',toks:=s.toks+1 })
 (hsz:kvs.length<=sizeLine):wpAny (15:) A (dictSetDefault d key dflt) Q E s:=by
 have ab:=hm.mapOf;obtain⟨o,es,ep,L,hc,G,U,hp,hn⟩:=hm;have Y:es.size<=sizeLine:=by
  have e1:=hp.length;have e2:es.toList.length=es.size:=by simp
  lia
 have M:(es.findIdx? λe=>knd.is k e.key)=kvs.findIdx? λkv=>decide (kv.1=k):=by
  rw [<-hp.findIdx k];obtain⟨l⟩:=es;simp
 unfold dictSetDefault
 try with_reducible refine wpAny_holding ?_
 refine wpAny_bind (knd.pyHash hkey ?_);refine wpAny_bind (wpAny_dictFind_of (s:={ s with toks:=s.toks+1 }) hkey L G U ?_);cases hi:es.findIdx? λe=>knd.is k e.key with
 | some i=>
  have Z:i<es.size:=(Array.findIdx?_eq_some_iff_findIdx_eq.mp hi).1;refine wpAny_bind (wpAny_dictEntries (s:={ s with toks:=s.toks+1 }) L G ?_);have aa:valueAt kvs k=some es[i].val:=by
   rw [<-hp.find k];have h1:(es.toList.findIdx? λe=>knd.is k e.key)=some i:=by rw [<-hi];obtain⟨l⟩:=es;simp
   have h2:=List.findIdx?_eq_some_iff_findIdx_eq.mp h1;have h3:es.toList.find? (λe=>knd.is k e.key)=some es.toList[i]:=by
    rw [List.find?_eq_some_iff_getElem];obtain⟨a,b,c⟩:=List.findIdx?_eq_some_iff_getElem.mp h1;exact⟨b,i,a,rfl,λj hj=>by simpa using c j hj⟩
   rw [h3];simp
  rw [Array.getElem?_eq_getElem Z];exact wpAny_bind (wpAny_rule (wpAny_pure (hthere _ aa)))
 | none=>
  have J:k∉kvs.map (·.1):=not_mem_of_findIdx_none (M ▸ hi);refine wpAny_bind (wpAny_rule (wpAny_bind (wpAny_updateDictKeys (hz:=Y) (s:={ s with toks:=s.toks+1 }) L G (wpAny_pure (hnew J _ ⟨_,_,ep+1,Heap.get?_update_self _ L (Obj.isFreed_of_dict (Obj.data_mapDictKeys G _)),hc.mapDictKeys _,Obj.data_mapDictKeys G _,U.push hkey _,?_,?_⟩ (Heap.SameBut.update ..))))))
  .have:=hp.append hkey (knd.hash k) dflt;obtain⟨l⟩:=es
   simpa using this
  .rw [List.map_append,List.nodup_append];refine⟨hn,by simp,?_⟩;intro a ha b hb;simp only [List.map_cons,List.map_nil,List.mem_singleton]at hb;subst hb;exact λe=>J (e ▸ ha)
theorem Ld{k:K}{key:Value}{d:Addr}(hkey:knd.is k key=true)(hd:(d==sysModules)=false)(dflt:Value)(kvs:List (K×Value))(hsz:kvs.length<=sizeLine):
 MeetsIn prog w (Builtin.«dict.setdefault» ⟨[.ref d,key,dflt],[]⟩) (λ_ R s=>s.heap.DictOf knd d kvs/\
  (∀v,valueAt kvs k=some v->R (.ok (.ret v)) { s with toks:=s.toks+1 })/\
  (k∉kvs.map (·.1)->∀h':Heap,h'.DictOf knd d (kvs++[(k,dflt)])->Heap.SameBut d s.heap h'->R (.ok (.ret dflt)) { s with heap:=h',toks:=s.toks+1 })):=
 .of_wp λA R s ⟨G,h1,h2⟩=>by
  unfold Builtin.«dict.setdefault»;refine wpAny_bind ?_;unfold Builtin.Dict.keyAndDefault;refine wpAny_bind (wpAny_notOrdered_dict G.mapOf.typeIs ?_);show wpAny _ _ (pure (d,key,some dflt)) _ _ s;refine wpAny_pure ?_;show wpAny _ _ (if(d==sysModules)=true then _ else(dictSetDefault d key dflt>>=_)) _ _ s;rw [if_neg (by rw [hd];exact Bool.false_ne_true)];exact wpAny_bind (G9 hkey G (λv M=>wpAny_pure ⟨v,rfl,h1 v M⟩) (λU h' J L=>wpAny_pure ⟨dflt,rfl,h2 U h' J L⟩) hsz)
end
section
variable{X:Cx}
theorem JK:MtR X "dict.setdefault" (λx vs H Q=>∃(d:Addr)(kvs:List (Key×V))(k:Key)(v:V),x=.ref d/\vs=[kV k,v]/\H d=some (.dK kvs)/\kvs.length<sizeLine/\
 (∀u,ZG kvs k=some u->Q u H)/\(k∉kvs.map (·.1)->Q v (upd H d (.dK (kvs++[(k,v)]))))):=by
 intro pins s σ H x xs v us Q I rx rv h;obtain⟨d,kvs,k,v',rfl,rfl,e,hl,h1,h2⟩:=h;cases rx;obtain⟨Y,J,rfl,r1,rr⟩: ∃Y J,us=Y::J/\RelV (kV k) Y/\Vals [v'] J:=by cases rv with | cons a b=>exact⟨_,_,rfl,a,b⟩
 obtain⟨u2,rfl,r2⟩:=rr.one;obtain⟨z,hd,vs,G,dd⟩:=Mh I.hok e;have hz:vs.length<=sizeLine:=by rw [<-G.length];exact z
 refine call_meetsIn F.slot_dict_setdefault dd.mapOf.typeIs F.entry_dict_setdefault (F.args_dict_setdefault_3 _ _ _) (Ld (Jw r1) hd u2 vs hz) ⟨dd,λw' hw=>?_,λhn h' M hs=>?_⟩
 .have L:=G.val k;rw [hw]at L;cases Z:ZG kvs k with
  | none=>rw [Z]at L;exact L.elim
  | some u=>rw [Z]at L;exact⟨u,H,I.tok _,L,h1 u Z⟩
 .have U:k∉kvs.map (·.1):=by rw [KV.keys G];exact hn
  have he:∃q,h'.get? d=some q:=let⟨q,_,_,hq,_⟩:=M;⟨q,hq⟩
  exact⟨v',_,X7 I (by rw [e];exact True.intro) hs he (VR (by rw [List.length_append];exact hl) hd (by have hp:=KV.put G k r2;unfold ZJ stored at hp;rw [if_neg (by rw [List.any_eq_true];rintro⟨a,ha,e⟩;exact U (List.mem_map.mpr ⟨a,ha,of_decide_eq_true e⟩)),if_neg (by rw [List.any_eq_true];rintro⟨a,ha,e⟩;exact hn (List.mem_map.mpr ⟨a,ha,of_decide_eq_true e⟩))]at hp;exact hp) M),r2,h2 U⟩
end
end L2
namespace L2
open PySem PySem.Spec PyProof.Rows
section
variable{X:Cx}
end
end L2
namespace K70
open PySem L2 TM TT ST K9 K11
abbrev sFI:Stmt:=inClass (top 12) 0
abbrev sGO:Stmt:=inClass (top 12) 1
abbrev sMG:Stmt:=inClass (top 12) 2
abbrev sHd:Stmt:=inClass (top 12) 3
def ff(kv mk:V)(ln:Addr):List (Str×V):=[("kinds",kv),("mark",mk),("needed",.ref ln)]
theorem OB(kv mk mk':V)(ln:Addr):ZK "mark" mk' (ff kv mk ln)=ff kv mk' ln:=by
 unfold ff;rw [Xr (0:),OJ]
structure FtT(K:Fg)(mg:Str->Option Value)(C:Addr):Prop where
 cl:Cls K C
 nK:NoAttr K C "kinds"
 nM:NoAttr K C "mark"
 nN:NoAttr K C "needed"
 mgC:mg "Fit"=some (.ref C)
abbrev Ent:=Int×V
abbrev Enu:=Int×Tree Str
def dKv(es:List Ent):List (Key×V):=es.map λe=>((Sum.inl e.1:Key),e.2)
structure Fs where
 m:Option Int
 es:List (List Enu)
def mV:Option Int->V
 | none=>.non
 | some i=>.int i
def look(e:List Enu)(m:Int):Option (40:):=(e.find? λz=>decide (z.1=m)).map (·.2)
def mkGo(k:Bool)(ad m:Int)(s:Fs):Bool×Fs:=match k,s.m with
 | false,_=>(decide (ad=m),s)
 | true,none=>(true,⟨some (m-ad),s.es⟩)
 | true,some x=>(decide (ad+x=m),s)
def JQ(m:Int)(j:Nat)(u:Tree Str)(s:Fs):Bool×Fs:=match look ((s.es[j]?).getD []) m with
 | some u'=>(PyData.eqv (td u') (td u),s)
 | none=>(true,⟨s.m,s.es.set j ((s.es[j]?).getD []++[(m,u)])⟩)
def goL(g:Tm->Tree Str->Fs->Bool×Fs):List Tm->List (40:)->Fs->List Bool×Fs
 | t::ts,u::us,s=>let r:=g t u s;let q:=goL g ts us r.2;(r.1::q.1,q.2)
 | _,_,s=>([],s)
def go:Nat->Tm->Tree Str->Fs->Bool×Fs
 | 0,_,_,s=>(false,s)
 | n+1,t,u,s=>match lab t with
  | .call m b=>JQ m b.toNat u s
  | .put nm k ad=>if nm=nam u/\t.bs.length=u.bs.length then
   (let r:=mkGo k ad (mrk u) s
    if r.1=true then(let q:=goL (go n) t.bs u.bs r.2;(q.1.all id,q.2))else(false,r.2))
   else(false,s)
structure EsAt(K:Fg)(H:Hp)(ev:List Ent)(e:List Enu):Prop where
 m:ev.map (·.1)=e.map (·.1)
 v:∀(k:Nat) z w,ev[k]?=some z->e[k]?=some w->TrV K H z.2 w.2
structure EnOk(e:List Enu):Prop where
 nd:(e.map (·.1)).Nodup
 gt:∀z∈e,GT 50 z.2
 mr:∀z∈e,∃k:Nat,z.1=(k:Int)/\k<10
structure FitE(K:Fg)(C:Addr)(H:Hp)(w:Nat)(s:Fs)(x dx:Addr)(kv:V)(ln:Addr)(ds:List Addr):Prop where
 hx:H x=some (.ins C dx (ff kv (mV s.m) ln))
 hl:H ln=some (.lst (ds.map V.ref))
 dl:ds.length=w
 el:s.es.length=w
 hd:∀(i:Nat) d e,ds[i]?=some d->s.es[i]?=some e->∃ev,H d=some (.dK (dKv ev))/\EsAt K H ev e
 nd:ds.Nodup
 en:∀e∈s.es,EnOk e
def SameF(x:Addr)(ds:List Addr)(H H':Hp):Prop:=∀b u,b≠x->b∉ds->H b=some u->H' b=some u
theorem SameF.refl(x:Addr)(ds:List Addr)(H:Hp):SameF x ds H H:=λ_ _ _ _ e=>e
theorem SameF.trans{x:Addr}{ds:List Addr}{H H1 H2:Hp}(a:SameF x ds H H1)(b:SameF x ds H1 H2):SameF x ds H H2:=λc u G J e=>b c u G J (a c u G J e)
theorem SameF.of{x:Addr}{ds:List Addr}{H H':Hp}(h:Same H H'):SameF x ds H H':=λb u _ _ e=>h b u e
theorem EsAt.mono{K:Fg}{H H':Hp}{ev:List Ent}{e:List Enu}(k:∀a xs,SqT K H a xs->SqT K H' a xs)(h:EsAt K H ev e):EsAt K H' ev e:=⟨h.m,λi z w a b=>(h.v i z w a b).mono k⟩
section
variable{K:Fg}{C:Addr}{H H':Hp}{w:Nat}{s:Fs}{x dx:Addr}{kv:V}{ln:Addr}{ds:List Addr}
theorem FitE.dic(F:FitE K C H w s x dx kv ln ds){d:Addr}(h:d∈ds):∃kvs,H d=some (.dK kvs):=by
 obtain⟨i,hi,rfl⟩:=List.getElem_of_mem h;obtain⟨G,e,_⟩:=F.hd i _ _ (24:) (List.getElem?_eq_getElem (show i<s.es.length by rw [F.el,<-F.dl];exact hi));exact⟨_,e⟩
theorem FitE.two(F:FitE K C H w s x dx kv ln ds)(g:SameF x ds H H'){a:Addr}{o:HO}(h:H a=some o)(n1:∀f,o≠.ins C dx f)(n2:∀f,o≠.dK f):H' a=some o:=by
 refine g _ _ (λz=>?_) (λz=>?_) h
 .rw [z,F.hx]at h;exact n1 _ (Option.some.inj h).symm
 .obtain⟨kvs,G⟩:=F.dic z;rw [G]at h;exact n2 _ (Option.some.inj h).symm
theorem FitE.seqT(F:FitE K C H w s x dx kv ln ds)(g:SameF x ds H H'){a:Addr}{xs:List V}(h:SqT K H a xs):SqT K H' a xs:=by
 rcases h with(q | ⟨o,q⟩) | q
 .exact .inl (.inl (F.two g q (λf z=>by cases z) (λf z=>by cases z)))
 .exact .inl (.inr ⟨o,F.two g q (λf z=>by cases z) (λf z=>by cases z)⟩)
 .exact .inr q
theorem FitE.raw(F:FitE K C H w s x dx kv ln ds)(g:SameF x ds H H'){a:Addr}{xs:List V}(h:H a=some (.lst xs)):H' a=some (.lst xs):=F.two g h (λf z=>by cases z) (λf z=>by cases z)
theorem FitE.upL(F:FitE K C H w s x dx kv ln ds){acc:Addr}{ys:List V}{o:HO}(ha:H acc=some (.lst ys))(hn:ln≠acc):FitE K C (upd H acc o) w s x dx kv ln ds:=
 ⟨by rw [Qh (Q3 F.hx ha (31:))];exact F.hx,by rw [Qh hn];exact F.hl,F.dl,F.el,λi d e a b=>by
  obtain⟨G,h1,h2⟩:=F.hd i d e a b;exact⟨G,by rw [Qh (Q3 h1 ha (31:))];exact h1,h2.mono λ_ _ h=>SqT.put h ha⟩,F.nd,F.en⟩
theorem FitE.same(F:FitE K C H w s x dx kv ln ds)(g:Same H H'):FitE K C H' w s x dx kv ln ds:=
 ⟨g _ _ F.hx,g _ _ F.hl,F.dl,F.el,λi d e a b=>by
  obtain⟨G,h1,h2⟩:=F.hd i d e a b;exact⟨G,g _ _ h1,h2.mono λ_ _=>g.seqT⟩,F.nd,F.en⟩
theorem FitE.mark(F:FitE K C H w s x dx kv ln ds)(i:Int):FitE K C (upd H x (.ins C dx (ff kv (.int i) ln))) w ⟨some i,s.es⟩ x dx kv ln ds/\SameF x ds H (upd H x (.ins C dx (ff kv (.int i) ln))):=by
 have g:SameF x ds H (upd H x (.ins C dx (ff kv (.int i) ln))):=λb u n _ e=>by rw [Qh n];exact e
 refine⟨⟨Qb,?_,F.dl,F.el,λj d e a b=>?_,F.nd,F.en⟩,g⟩
 .rw [Qh (Q3 F.hl F.hx (31:))];exact F.hl
 .obtain⟨G,h1,h2⟩:=F.hd j d e a b;exact⟨G,by rw [Qh (Q3 h1 F.hx (31:))];exact h1,h2.mono λ_ _ h=>F.seqT g h⟩
theorem FitE.add(F:FitE K C H w s x dx kv ln ds){i:Nat}{d:Addr}{ev:List Ent}{e:List Enu}{m:Int}{v:V}{u:Tree Str}(hd:ds[i]?=some d)(he:s.es[i]?=some e)(hde:H d=some (.dK (dKv ev)))(hE:EsAt K H ev e)(hv:TrV K H v u)(hG:GT 50 u)(hm:∃k:Nat,m=(k:Int)/\k<10)(hk:m∉e.map (·.1)):FitE K C (upd H d (.dK (dKv (ev++[(m,v)])))) w ⟨s.m,s.es.set i (e++[(m,u)])⟩ x dx kv ln ds/\SameF x ds H (upd H d (.dK (dKv (ev++[(m,v)])))):=by
 have aa:=List.mem_of_getElem? hd;have g:SameF x ds H (upd H d (.dK (dKv (ev++[(m,v)])))):=λb u _ n eb=>by
  have nb:b≠d:=λq=>n (by rw [q];exact aa);rw [Qh nb];exact eb
 have hi:=(List.getElem?_eq_some_iff.mp he).1;have M:=F.en e (List.mem_of_getElem? he);refine⟨⟨?_,?_,F.dl,by show(s.es.set i _).length=w;rw [List.length_set];exact F.el,λj d' U a b=>?_,F.nd,λU ab=>?_⟩,g⟩
 .rw [Qh (Q3 F.hx hde (by intro q;cases q))];exact F.hx
 .rw [Qh (Q3 F.hl hde (by intro q;cases q))];exact F.hl
 .have b:(s.es.set i (e++[(m,u)]))[j]?=some U:=b
  by_cases G:j=i
  .subst G;rw [hd]at a;cases a;rw [List.getElem?_set_self hi]at b;cases b;refine⟨_,Qb,by rw [List.map_append,List.map_append,hE.m];rfl,λk z y a b=>?_⟩;have Y:ev.length=e.length:=by have:=congrArg List.length hE.m;simpa using this
   by_cases ac:k<ev.length
   .rw [List.getElem?_append_left ac]at a;rw [List.getElem?_append_left (3:)]at b;exact(hE.v k z y a b).mono λ_ _ h=>F.seqT g h
   .rw [List.getElem?_append_right (3:)]at a;rw [List.getElem?_append_right (3:),<-Y]at b;cases J:k-ev.length with
    | zero=>
     rw [J]at a b;cases a;cases b;exact hv.mono λ_ _ h=>F.seqT g h
    | succ q=>rw [J]at a;cases a
  .rw [List.getElem?_set_ne (λq=>G q.symm)]at b;have ad:d'≠d:=λq=>G ((List.getElem?_inj (List.getElem?_eq_some_iff.mp a).1 F.nd).mp (by rw [a,hd,q]));obtain⟨ae,h1,h2⟩:=F.hd j d' U a b;exact⟨ae,by rw [Qh ad];exact h1,h2.mono λ_ _ h=>F.seqT g h⟩
 .obtain⟨j,G,rfl⟩:=List.getElem_of_mem ab;have G:j<(s.es.set i (e++[(m,u)])).length:=G;rw [List.length_set]at G;show EnOk (s.es.set i (e++[(m,u)]))[j]
  by_cases L:i=j
  .subst L;rw [List.getElem_set_self];refine⟨?_,λz Z=>?_,λz Z=>?_⟩
   .rw [List.map_append,List.nodup_append];exact⟨M.nd,by simp,λp hp q J z'=>hk (by
     have:q=m:=by simpa using J
     rw [<-this,<-z'];exact hp)⟩
   .rcases List.mem_append.mp Z with q | q
    .exact M.gt z q
    .rw [List.mem_singleton.mp q];exact hG
   .rcases List.mem_append.mp Z with q | q
    .exact M.mr z q
    .rw [List.mem_singleton.mp q];exact hm
  .rw [List.getElem_set_ne L];exact F.en _ (List.getElem_mem G)
end
def Ou(K:Fg):Sp:=λvs H Q _=>∃(v mv:V)(n:Str)(k:Bool)(ad m:Int)(ts:List Tm),vs=[v,mv]/\TmV K H v (.node (.put n k ad) 0 ts)/\(k=true->mv=.int m)/\Q (.int (if k=true then ad+m else ad)) H
def cMP:List G3.S:=[.ret (.iff (.ix (.v 0) (.k (.int 2))) (.bin .Add (.ix (.v 0) (.k (.int 3))) (.v 1)) (.ix (.v 0) (.k (.int 3))))]
def nMP(K:Fg):G3.En:=⟨K,[],[],[],[]⟩
def Rm(K:Fg)(C:Addr):Sp:=λvs H Q _=>∃(w:Nat)(s:Fs)(x dx:Addr)(kv:V)(ln:Addr)(ds:List Addr)(tv:V)(n:Str)(k:Bool)(ad m:Int)(ts:List Tm),vs=[.ref x,tv,.int m]/\FitE K C H w s x dx kv ln ds/\TmV K H tv (.node (.put n k ad) 0 ts)/\
 ∀H':Hp,SameF x ds H H'->FitE K C H' w (mkGo k ad m s).2 x dx kv ln ds->Q (.bl (mkGo k ad m s).1) H'
section
variable{P:Program}{w:World}{K:Fg}{mg:Str->Option Value}{base:Heap}{f:Addr}{fd:FuncData}{C:Addr}
theorem Td:FnScope ["term","mark"] ["term","mark"] (defScope sMP):=(1:)
theorem Rw(F:Fun K "mark_put" "mark_put" sMP f fd)(G:Gm mg):FnOk P w K mg base CX0 1 f fd ["term","mark"] (Ou K):=by
 refine G3.Fun.okC F Td (nMP K) cMP (λX c=>⟨.nil,.nil,.nil⟩) (7:) (λH vs Q E h=>?_) G.rng
 .obtain⟨v,J,n,k,L,m,M,rfl,_⟩:=h
  rfl
 obtain⟨v,J,n,k,L,m,M,rfl,U,Y,q⟩:=h;cases U with
 | put h1 h2 Z h4=>
  cases k with
  | true=>
   cases Y rfl;exact .t _ _ h1 rfl<| .t _ _ h1 rfl q
  | false=>exact .t _ _ h1 rfl<| .t _ _ h1 rfl q
theorem Tz:FnScope ["self","term","mark"] ["self","term","mark"] (defScope sMG):=(1:)
theorem RG(F:Fun K "mark_goes" "Fit.mark_goes" sMG f fd)(T0:FtT K mg C)(RP:Fn P w K mg base 1 "mark_put" ["term","mark"] (Ou K)):FnOk P w K mg base CX0 2 f fd ["self","term","mark"] (Rm K C):=by
 refine F.ok Tz (7:) (λaa A outer s H vs Q E hr h=>?_)
 .obtain⟨U,s,x,dx,kv,ln,ds,tv,n,k,G,m,Y,rfl,_⟩:=h
  rfl
 obtain⟨U,s,x,dx,kv,ln,ds,tv,n,k,G,m,Y,rfl,J,hv,q⟩:=h;refine⟨_,(Qf (Uk (QC (PW.pt (pw_and (QS (27:)) (pw_and1 (YQ (Jq (Ji (pv 0) rfl)))))) (Qg (Xq (pv 0) (Qs YW (pv 2) (27:)) rfl)) Qq))
  (Qg (Ql (ZH Za (Qp RP hr (Qa (pv 1) (Qa (Ji (pv 0) rfl) Qc))) (pv 2) (Qu _))))),?_⟩
 cases hv with
 | @put ta tb ab ac _ _ _ h1 h2 h3 h4=>
 refine⟨λZ H'=>Z=[some (.ref x),some (.ref ta),some (.int m)]/\SameF x ds H H'/\FitE K C H' U (mkGo k G m s).2 x dx kv ln ds/\∃y:Int,(k=true->mV (mkGo k G m s).2.m=.int y)/\(mkGo k G m s).1=decide ((if k=true then G+y else G)=m),?_,?_⟩
 .refine⟨_,rfl,ta,_,2,_,rfl,rfl,h1,rfl,k,rfl,?_⟩;cases k with
  | false=>exact Zc (Zc ⟨rfl,SameF.refl _ _ _,J,0,λz=>(nomatch z),rfl⟩)
  | true=>
   refine QU ⟨_,rfl,x,C,dx,_,_,rfl,J.hx,T0.cl,T0.nM,rfl,_,rfl,?_⟩;obtain⟨mk,es⟩:=s;cases mk with
   | none=>
    refine JJ rfl ⟨_,rfl,_,rfl,ta,_,3,_,rfl,rfl,h1,rfl,_,_,rfl,rfl,_,rfl,x,C,dx,_,rfl,J.hx,T0.cl,T0.nM,(by show 3<1000;decide),?_⟩;rw [OB];obtain⟨n1,n2⟩:=J.mark (m-G);refine⟨rfl,n2,n1,m-G,λ_=>rfl,?_⟩;show true=decide (G+(m-G)=m);rw [decide_eq_true (3:)]
   | some y=>exact JO (λz=>by cases z) ⟨rfl,SameF.refl _ _ _,J,y,λ_=>rfl,rfl⟩
 .rintro Z H1 ⟨rfl,L,M,y,hy,hb⟩;refine⟨_,rfl,_,rfl,x,C,dx,_,_,rfl,M.hx,T0.cl,T0.nM,rfl,.ref ta,mV (mkGo k G m s).2.m,n,k,G,y,Y,rfl,.put (J.seqT L h1) (J.seqT L h2) (h3.mono λ_ _ h=>J.seqT L h) h4,hy,_,rfl,rfl,?_⟩;have ed:decide (V.int (if k=true then G+y else G)=V.int m)=(mkGo k G m s).1:=by rw [hb];simp
  show Q (.bl (decide (V.int (if k=true then G+y else G)=V.int m))) H1;rw [ed];exact q H1 L M
end
end K70
namespace K70
open PySem L2 TM TT ST K9 K11
theorem UI{c A B:Prop} [Decidable c] (hc:¬c) (h:A):if(!decide c)=true then A else B:=by
 rw [decide_eq_false hc];exact h
theorem pig{α:Type} [DecidableEq α]:∀{l r:List α},l.Nodup->(∀x∈l,x∈r)->l.length<=r.length
 | [],_,_,_=>Nat.zero_le _
 | x::l,r,hn,h=>by
  rw [List.nodup_cons]at hn;have:=pig (l:=l) (r:=r.erase x) hn.2 λy G=>(List.mem_erase_of_ne (λz=>hn.1 (by rw [<-z];exact G))).mpr (h y (19:));have J:=h x List.mem_cons_self;have:=List.length_erase_of_mem J;have:=List.length_pos_of_mem J;simp only [List.length_cons];lia
theorem GT.bs{l:Nat}{n:Str}{m:Int}{us:List (40:)}(h:GT l (.node n m us)):∀u∈us,GT l u:=by
 have J:∀us:List (40:),PyData.canLayAll0 (tds us)=true->∀u∈us,(td u).canLay0=true/\(td u).depth<=PyData.depthAll (tds us):=λus=>by
  induction us with
  | nil=>intro _ u G;cases G
  | cons a r L=>
   intro h u G;simp only [tds,PyData.canLayAll0,Bool.and_eq_true]at h;simp only [tds,PyData.depthAll];rcases List.mem_cons.mp G with z | z
   .rw [z];exact⟨h.1,by lia⟩
   .obtain⟨a,b⟩:=L h.2 u z;exact⟨a,by lia⟩
 have h1:=h.ok;have h2:=h.dp;have M:=h.lv;simp only [td,PyData.canLay0,PyData.canLayAll0,Bool.and_eq_true]at h1;simp only [td,PyData.depth,PyData.depthAll]at h2;rw [Q4]at M;intro u G;obtain⟨a,b⟩:=J us h1.2.2.1 u G;have:=Yg G;have e:lvs (Tree.bs (.node n m us))=lvs us:=rfl;exact⟨by lia,a,by lia⟩
def Vp(K:Fg)(C:Addr)(n:Nat):Sp:=λvs H Q _=>∃(w:Nat)(s:Fs)(x dx:Addr)(kv:V)(ln:Addr)(ds:List Addr)(tv uv:V)(t:Tm)(u:Tree Str)(cs:List (Int×Int)),vs=[.ref x,tv,uv]/\FitE K C H w s x dx kv ln ds/\w<=10/\TmV K H tv t/\TrV K H uv u/\GT 50 u/\lv t<=n/\TDr cs t/\(∀c∈cs,∃k j:Nat,c=((k:Int),(j:Int))/\k<10/\j<w)/\
 ∀H':Hp,SameF x ds H H'->FitE K C H' w (go n t u s).2 x dx kv ln ds->Q (.bl (go n t u s).1) H'
theorem Wc{g:Tm->Tree Str->Fs->Bool×Fs}:∀(ts:List Tm)(us:List (40:))(s:Fs)(t:Tm)(u:Tree Str),ts.length=us.length->goL g (ts++[t]) (us++[u]) s=((goL g ts us s).1++[(g t u (goL g ts us s).2).1],(g t u (goL g ts us s).2).2)
 | [],[],s,t,u,_=>rfl
 | [],_::_,_,_,_,h=>by cases h
 | _::_,[],_,_,_,h=>by cases h
 | a::ts,b::us,s,t,u,h=>by
  have G:=Wc (g:=g) ts us (g a b s).2 t u (Nat.succ.inj h);show((g a b s).1::(goL g (ts++[t]) (us++[u]) (g a b s).2).1,(goL g (ts++[t]) (us++[u]) (g a b s).2).2)=_;rw [G]
  rfl
theorem Go{g:Tm->Tree Str->Fs->Bool×Fs}:∀(ts:List Tm)(us:List (40:))(s:Fs),(goL g ts us s).1.length<=ts.length
 | [],_,_=>Nat.zero_le _
 | _::_,[],_=>Nat.zero_le _
 | a::ts,b::us,s=>Nat.succ_le_succ (Go (g:=g) ts us (g a b s).2)
theorem V4{K:Fg}{H:Hp}{m:Int}:∀{ev:List Ent}{e:List Enu},EsAt K H ev e->∀{v:V},((dKv ev).find? λkv=>decide (kv.1=Sum.inl m)).map (·.2)=some v->∃u,look e m=some u/\TrV K H v u/\(m,u)∈e
 | [],_,_,v,G=>by cases G
 | z::r,[],h,v,G=>by have:=h.m;cases this
 | z::r,y::r',h,v,G=>by
  have U:=h.m;rw [List.map_cons,List.map_cons]at U;obtain⟨h1,h2⟩:=List.cons.inj U;unfold look;unfold dKv at G;rw [List.map_cons,List.find?_cons]at G;rw [List.find?_cons]
  by_cases J:z.1=m
  .have L:decide ((Sum.inl z.1:Key)=Sum.inl m)=true:=decide_eq_true (by rw [J]);simp only [L]at G;have M:decide (y.1=m)=true:=decide_eq_true (by rw [<-h1];exact J);simp only [M];have G:z.2=v:=by simpa using G
   refine⟨y.2,rfl,by rw [<-G];exact h.v 0 z y rfl rfl,?_⟩;rw [show(m,y.2)=y by rw [<-J,h1]];exact List.mem_cons_self
  .have L:decide ((Sum.inl z.1:Key)=Sum.inl m)=false:=decide_eq_false (λq=>J (Sum.inl.inj q));simp only [L]at G;have M:decide (y.1=m)=false:=decide_eq_false (by rw [<-h1];exact J);simp only [M];obtain⟨u,a,b,c⟩:=V4 (ev:=r) (e:=r') ⟨h2,λk z w a b=>h.v (k+1) z w a b⟩ G;exact⟨u,a,b,List.mem_cons_of_mem _ c⟩
theorem N0{e:List Enu}{m:Int}(h:m∉e.map (·.1)):look e m=none:=by
 unfold look;rw [List.find?_eq_none.mpr λz G=>by
  simp only [decide_eq_true_eq];exact λq=>h (List.mem_map.mpr ⟨z,G,q⟩)]
 rfl
theorem EnOk.len{e:List Enu}(h:EnOk e):e.length<=10:=by
 have:(e.map (·.1)).length<=((List.range 10).map λk:Nat=>(k:Int)).length:=pig h.nd λy G=>by
  obtain⟨z,J,rfl⟩:=List.mem_map.mp G;obtain⟨k,L,M⟩:=h.mr z J;exact List.mem_map.mpr ⟨k,List.mem_range.mpr M,L.symm⟩
 simpa using this
section
variable{P:Program}{w:World}{K:Fg}{mg:Str->Option Value}{base:Heap}{f:Addr}{fd:FuncData}{C:Addr}
theorem S0:FnScope ["self","term","tree"] ["self","term","tree"] (defScope sGO):=(1:)
theorem RX{n:Nat}(F:Fun K "goes_onto" "Fit.goes_onto" sGO f fd)(G:Gm mg)(T0:FtT K mg C)(RC:Fn P w K mg base 1 "is_call" ["term"] (Wp K))(MG:Mt P w K mg base C 2 "mark_goes" ["self","term","mark"] (Rm K C))(R:Mt P w K mg base C (n+3) "goes_onto" ["self","term","tree"] (Vp K C n)):FnOk P w K mg base CX0 (n+4) f fd ["self","term","tree"] (Vp K C (n+1)):=by
 refine F.ok S0 (7:) (λbf A outer s H vs Q E hr h=>?_)
 .obtain⟨w',z,x,dx,kv,ln,ds,tv,uv,t,u,cs,rfl,_⟩:=h
  rfl
 obtain⟨w',z,x,dx,kv,ln,ds,tv,uv,t,u,cs,rfl,J,ax,hv,hu,hG,ay,af,al,q⟩:=h;have az:Room 1 _:=hr.mono (3:);have a0:Room 2 _:=hr.mono (3:);refine⟨_,(Qf (QC (QS (Qp RC az (Qa (pv 1) Qc))) (Qg (Ql (ZH Jf (Yp PySem.F.plainAttrs_dict PySem.F.slot_dict_setdefault PySem.F.type_dict_setdefault JK (Qk Qw (Ji (pv 0) rfl) (27:) (2:)) (Qa (27:) (Qa (pv 2) Qc))) (pv 2) (Qu _)))) Qq)
  (Qf (QC (PW.pt (pw_or (Qr Ye (27:) (Qk Qj (pv 2) Qd (2:)) (Qu _)) (pw_or (Qr Ye (Qn Qm rfl G.len PySem.boot_len (Qa (27:) Qc)) (Qn Qm rfl G.len PySem.boot_len (Qa (Qk Qj (pv 2) Qd (2:)) Qc)) (Qu _)) (pw_or1 (Zh (QS (V1 MG T0.cl a0 (pv 0) (Qa (pv 1) (Qa (Qk Qj (pv 2) Qd (2:)) Qc))))))))) (Qg (Ql ZN)) Qq)
  (Qg (Ql (Qn (GJ rfl) rfl G.all PyProof.Rows.boot_all (Qa (QK (CompG.many (xs:=["part","branch"]) (caps:=["self"]) (cap:=[0]) (cs:=[_]) rfl rfl (0:) (0:) (0:) (0:) (0:) (0:) rfl rfl rfl) rfl (XO rfl G.zip (Qa (27:) (Qa (Qk Qj (pv 2) Qd (2:)) Qc))) (UK (CompG.many (xs:=["part","branch"]) (caps:=["self"]) (cap:=[0]) (cs:=[_]) rfl rfl (0:) (0:) (0:) (0:) (0:) (0:) rfl rfl rfl) rfl) (λ_ _ _ _=>QX) (λ_ _ _ _=>V1 R T0.cl hr (pv 2) (Qa (pv 0) (Qa (pv 1) Qc)) (5:))) Qc)))))),?_⟩
 rcases YX hv with⟨ta,m,br,rfl,rfl,h1⟩ | ⟨ta,tb,ag,tn,tk,M,rfl,ah,h1,h2,h3,h4⟩
 .have as:(m,br)∈cs:=af;obtain⟨k,j,e,hk,hj⟩:=al _ as;obtain⟨e1,e2⟩:=Prod.mk.inj e;obtain⟨d,hd⟩: ∃d,ds[j]?=some d:=⟨_,List.getElem?_eq_getElem (by rw [J.dl];exact hj)⟩;obtain⟨e',aa⟩: ∃e,z.es[j]?=some e:=⟨_,List.getElem?_eq_getElem (by rw [J.el];exact hj)⟩;obtain⟨ev,ai,hE⟩:=J.hd j d e' hd aa;have hO:=J.en e' (List.mem_of_getElem? aa);have ab:ev.length<=10:=by
   have:=congrArg List.length hE.m;rw [List.length_map,List.length_map]at this;have:=hO.len;lia
  have aj:go (n+1) (Rl m br) u z=JQ m j u z:=by
   show JQ m br.toNat u z=_;rw [e2,Int.toNat_natCast]
  rw [aj]at q;refine⟨_,rfl,.ref ta,_,rfl,hv,true,rfl,QU ?_⟩;refine⟨_,rfl,x,C,dx,_,_,rfl,J.hx,T0.cl,T0.nN,rfl,_,rfl,ta,_,2,_,rfl,rfl,h1,rfl,ln,_,br,.ref d,rfl,rfl,SqL.of J.hl,by rw [e2];exact QB (by rw [List.getElem?_map,hd];rfl),.inr (.inr (.inl ⟨rfl,.inl ⟨_,ai⟩⟩)),_,rfl,ta,_,1,_,rfl,rfl,h1,rfl,_,rfl,d,dKv ev,Sum.inl m,uv,rfl,rfl,ai,by unfold dKv;rw [List.length_map,Qz];lia,λu' au=>?_,λa1=>?_⟩
  .obtain⟨u0,hl,ht,hm⟩:=V4 hE au;have a3:=hO.gt _ hm;have hc:JQ m j u z=(PyData.eqv (td u0) (td u),z):=by
    unfold JQ;rw [aa];show(match look e' m with | some u'=>_ | none=>_)=_;rw [hl]
   rw [hc]at q;refine⟨_,rfl,td u0,td u,TrV.rd ht,TrV.rd hu,a3.ok,hG.ok,?_,q H (SameF.refl _ _ _) J⟩;have:=hG.dp;have:=Nat.min_le_right (td u0).depth (td u).depth;have h0:=hr.un;show(A.deeper _).units+_<cLine;lia
  .have ak:m∉e'.map (·.1):=λy=>by
    rw [<-hE.m]at y;obtain⟨y,hy,e⟩:=List.mem_map.mp y;refine a1 (List.mem_map.mpr ⟨(Sum.inl y.1,y.2),List.mem_map.mpr ⟨y,hy,rfl⟩,?_⟩);rw [<-e]
   obtain⟨F1,Y⟩:=J.add (m:=m) (v:=uv) (u:=u) hd aa ai hE hu hG ⟨k,e1,hk⟩ ak;have hc:JQ m j u z=(true,⟨z.m,z.es.set j (e'++[(m,u)])⟩):=by
    unfold JQ;rw [aa];show(match look e' m with | some u'=>_ | none=>_)=_;rw [N0 ak]
    rfl
   rw [hc]at q;have ed:dKv ev++[((Sum.inl m:Key),uv)]=dKv (ev++[(m,uv)]):=by unfold dKv;rw [List.map_append];rfl
   rw [ed];have am:=hu.mono λ_ _ h=>J.seqT Y h;refine⟨_,rfl,td u,td u,TrV.rd am,TrV.rd am,hG.ok,hG.ok,?_,?_⟩
   .have:=hG.dp;have:=Nat.min_le_right (td u).depth (td u).depth;have h0:=hr.un;show(A.deeper _).units+_<cLine;lia
   .show Q (.bl (PyData.eqv (td u) (td u))) _;rw [ZA _ hG.ok];exact q _ Y F1
 have an:lab t=.put tn tk M:=by rw [ah];rfl
 obtain⟨un,um,L⟩:=u;have aj:go (n+1) t (.node un um L) z=if tn=un/\t.bs.length=L.length then(if(mkGo tk M um z).1=true then((goL (go n) t.bs L (mkGo tk M um z).2).1.all id,(goL (go n) t.bs L (mkGo tk M um z).2).2)else(false,(mkGo tk M um z).2))else(false,z):=by
  rw [go,an]
  rfl
 rw [aj]at q;obtain⟨ua,ub,ac,rfl,r1,r2,r3,r4⟩:=ZQ hu;have ab:=h3.length;have ad:ac.length=L.length:=r3.length;refine⟨_,rfl,.ref ta,t,rfl,hv,isC (lab t),rfl,?_⟩;rw [an];refine Zc ?_;refine⟨_,rfl,ta,_,1,_,rfl,rfl,h1,rfl,_,rfl,ua,_,0,_,rfl,rfl,r1,rfl,rfl,_,rfl,?_⟩
 by_cases hn:tn=un
 case neg=>
  rw [if_neg (λy=>hn y.1)]at q;exact UI (λy=>hn (V.str.inj y)) (QU (q H (SameF.refl _ _ _) J))
 refine Yh (by rw [hn];rfl) ?_;refine(54:)
 by_cases Z:t.bs.length=L.length
 case neg=>
  rw [if_neg (λy=>Z y.2)]at q;exact UI (λy=>Z (by
   have:=V.int.inj y;lia)) (QU (q H (SameF.refl _ _ _) J))
 rw [if_pos ⟨hn,Z⟩]at q;refine Yh (by rw [ab,ad];exact congrArg (λn:Nat=>V.int (n:Int)) Z) ?_;refine⟨_,rfl,x,dx,_,rfl,J.hx,rfl,_,rfl,_,rfl,ua,_,1,_,rfl,rfl,r1,rfl,w',z,x,dx,kv,ln,ds,.ref ta,tn,tk,M,um,t.bs,rfl,J,by rw [<-ah];exact hv,λH1 Y F1=>⟨_,rfl,?_⟩⟩;generalize mkGo tk M um z=zr at q F1;obtain⟨zb,z1⟩:=zr;cases zb with
 | false=>
  rw [if_neg Bool.false_ne_true]at q;exact QU (q H1 Y F1)
 | true=>
 rw [if_pos rfl]at q;refine Zc ?_;have a4:=J.seqT Y h1;have ao:=J.seqT Y h2;have a5:=J.seqT Y r1;have ap:=J.seqT Y r2;have av:∀p∈t.bs,TDr cs p:=λp hp=>by
  rw [ah,TDr]at af;exact(Ze cs t.bs).mp af.2.2 p hp
 rw [Q4]at ay;refine⟨_,rfl,ta,_,4,_,rfl,rfl,a4,rfl,_,rfl,ua,_,2,_,rfl,rfl,a5,rfl,tb,ub,ag,ac,rfl,ao,ap,λacc U=>?_⟩;have aw:t.bs.length=L.length:=Z;have a6:ag.length=ac.length:=by rw [ab,ad];exact Z
 refine NE (K:=K) (xs:=ag) (zs:=ac) (cs:=[some (.ref x)]) (tt:=λ_ H Q=>Q true H) (te:=We C "goes_onto" (Vp K C n) [] E0 (Zo 2) (Zm (Zo 0) (Zm (Zo 1) UQ))) a6 (λi ys H'=>H' acc=some (.lst ys)/\SameF x ds H1 H'/\FitE K C H' w' (goL (go n) (t.bs.take i) (L.take i) z1).2 x dx kv ln ds/\ys=(goL (go n) (t.bs.take i) (L.take i) z1).1.map V.bl)
  ⟨Qb,SameF.of (Qe U _),F1.same (Qe U _),rfl⟩ ?_ ?_ ?_
 .rintro i ys H' _ ⟨_,g,_⟩;exact⟨F1.seqT g ao,F1.seqT g ap⟩
 .rintro i u' v' p ys H' hi a7 a8 hp ⟨ae,g,F2,rfl⟩;have gp:=Qe hp (.tup [u',v']);obtain⟨c,hc⟩: ∃c,t.bs[i]?=some c:=(26:);obtain⟨y,hy⟩: ∃y,L[i]?=some y:=(26:);obtain⟨cv,a9,ba⟩:=h3.get hc;obtain rfl:cv=u':=Option.some.inj (a9.symm.trans a7);obtain⟨zv,bb,bc⟩:=r3.get hy;obtain rfl:zv=v':=Option.some.inj (bb.symm.trans a8);have km:∀a xs,SqT K H a xs->SqT K (upd H' p (.tup [cv,zv])) a xs:=λ_ _ h=>gp.seqT (F1.seqT g (J.seqT Y h));have aq:=List.mem_of_getElem? hc;have:=Yg aq;have bd:ln≠acc:=λq=>by rw [<-q,F1.hl]at U;cases U
  have sn:=Wc (g:=go n) (t.bs.take i) (L.take i) z1 c y (by rw [List.length_take,List.length_take,aw]);have et:t.bs.take i++[c]=t.bs.take (i+1):=by rw [List.take_succ,hc];rfl
  have eu:L.take i++[y]=L.take (i+1):=by rw [List.take_succ,hy];rfl
  rw [et,eu]at sn;have be:=Go (g:=go n) (t.bs.take i) (L.take i) z1;rw [List.length_take]at be;refine QU ⟨_,rfl,x,dx,_,rfl,gp _ _ F2.hx,rfl,_,rfl,_,rfl,w',_,x,dx,kv,ln,ds,cv,zv,c,y,cs,rfl,F2.same gp,ax,ba.mono km,bc.mono km,hG.bs y (List.mem_of_getElem? hy),by lia,av c aq,al,λH3 g3 F3=>?_⟩;have ar:=(F2.same gp).raw g3 (gp _ _ ae);refine Qv hi ar (29:) ⟨Qb,λb o n1 n2 e=>?_,?_,?_⟩
  .rw [Qh (Qi e U)];exact g3 _ _ n1 n2 (gp _ _ (g _ _ n1 n2 e))
  .rw [sn];exact F3.upL ar bd
  .rw [sn];show _=List.map V.bl ((goL (go n) (t.bs.take i) (L.take i) z1).1++[_]);rw [List.map_append]
   rfl
 rintro ys H2 ⟨ae,g2,F2,rfl⟩;rw [List.take_of_length_le (3:),List.take_of_length_le (3:)]at F2 ae;exact⟨acc,(goL (go n) t.bs L z1).1,rfl,SqL.of ae,q H2 (Y.trans g2) F2⟩
theorem NY{k:Nat}:FnOk P w K mg base CX0 k f fd ["self","term","tree"] (Vp K C 0):=by
 have G:∀vs H Q E,¬Vp K C 0 vs H Q E:=λvs H Q E h=>by
  obtain⟨M,z,x,dx,kv,ln,ds,tv,U,t,u,cs,_,_,_,_,_,_,J,_⟩:=h;rw [Q4]at J;lia
 exact⟨λvs H Q E h=>absurd h (G vs H Q E),λA outer s H L Y vs Q E _ _ _ _ h=>absurd h (G vs H Q E)⟩
theorem L7(F:Fun K "goes_onto" "Fit.goes_onto" sGO f fd)(G:Gm mg)(T0:FtT K mg C)(RC:Fn P w K mg base 1 "is_call" ["term"] (Wp K))(MG:Mt P w K mg base C 2 "mark_goes" ["self","term","mark"] (Rm K C))(hM:Meth K C "goes_onto" f)(hb:Binds K fd ["self","term","tree"] []):∀n:Nat,FnOk P w K mg base CX0 (n+3) f fd ["self","term","tree"] (Vp K C n)
 | 0=>NY
 | n+1=>RX F G T0 RC MG ⟨f,fd,hM,L7 F G T0 RC MG hM hb n,hb⟩
end
end K70
namespace L2
open PySem PySem.Spec PyProof.Rows
theorem NT{K:Fg}{a b acc:Addr}{xs zs:List V}{tt:TT}{te:TE}{cs:St}{H1:Hp}{Q:Hp->Prop}(hlen:xs.length=zs.length)(Pv:Nat->List V->Hp->Prop)(h0:Pv 0 [] (upd H1 acc (.lst [])))(hl:∀i ys H,i<=xs.length->Pv i ys H->SqT K H a xs/\SqL K H b zs)
 (hs:∀i u v p ys H,i<xs.length->xs[i]?=some u->zs[i]?=some v->H p=none->Pv i ys H->tt (some u::some v::cs) (upd H p (.tup [u,v])) (JN xs.length Pv acc i te (some u::some v::cs))) (hd:∀ys H,Pv xs.length ys H->Q H):Z2 (Rh K a b xs zs) 2 cs (Lp K 2 (Yd (QP 0) (Yd (QP 1) Vk))) tt te H1 acc Q:=by
 refine Q7 (N:=xs.length) Pv h0 (λys H p=>?_) λi ys H hi p=>?_
 .obtain⟨G,J⟩:=hl _ _ _ (5:) p;exact⟨⟨G,Nat.le_refl _⟩,hd ys H p⟩
 .obtain⟨G,J⟩:=hl _ _ _ (Nat.le_of_lt hi) p;refine⟨⟨G,J,hi,by lia⟩,?_⟩;rintro x Z ⟨q,u,v,M,rfl,rfl,U,Y⟩ as L;obtain⟨a0,a1,rfl⟩:=UV L;exact(55:)
end L2
namespace K70
open PySem L2 TM TT ST K9 K11
def SH(K:Fg)(C:Addr):Sp:=λvs H Q _=>∃(x dx kt:Addr)(kb:List Str),vs=[.ref x,.ref kt]/\H x=some (.ins C dx [])/\SqT K H kt (kb.map V.str)/\kb.length<=10/\
 ∀(ln:Addr)(ds:List Addr)(H':Hp),MV x H H'->(∀d∈ds,H d=none)->FitE K C H' kb.length ⟨none,List.replicate kb.length []⟩ x dx (.ref kt) ln ds->Q .non H'
structure PsAt(K:Fg)(H:Hp)(ps:List (Addr×Ent))(e:List Enu):Prop where
 m:ps.map (λp=>p.2.1)=e.map (·.1)
 v:∀(k:Nat) p z,ps[k]?=some p->e[k]?=some z->SqT K H p.1 [.int p.2.1,p.2.2]/\TrV K H p.2.2 z.2
theorem PsAt.mono{K:Fg}{H H':Hp}{ps:List (Addr×Ent)}{e:List Enu}(k:∀a xs,SqT K H a xs->SqT K H' a xs)(h:PsAt K H ps e):PsAt K H' ps e:=⟨h.m,λi p z a b=>⟨k _ _ (h.v i p z a b).1,(h.v i p z a b).2.mono k⟩⟩
theorem PsAt.snoc{K:Fg}{H:Hp}{ps:List (Addr×Ent)}{e:List Enu}{p:Addr×Ent}{z:Enu}(h:PsAt K H ps e)(e1:p.2.1=z.1)(h1:SqT K H p.1 [.int p.2.1,p.2.2])(h2:TrV K H p.2.2 z.2):PsAt K H (ps++[p]) (e++[z]):=by
 have G:ps.length=e.length:=by have:=congrArg List.length h.m;simpa using this
 refine⟨by rw [List.map_append,List.map_append,h.m];show _++[p.2.1]=_++[z.1];rw [e1],λk M U a b=>?_⟩
 by_cases J:k<ps.length
 .rw [List.getElem?_append_left J]at a;rw [List.getElem?_append_left (3:)]at b;exact h.v k M U a b
 .rw [List.getElem?_append_right (3:)]at a;rw [List.getElem?_append_right (3:),<-G]at b;cases L:k-ps.length with
  | zero=>
   rw [L]at a b;cases a;cases b;exact⟨h1,h2⟩
  | succ q=>rw [L]at a;cases a
structure PsOf(e e':List Enu):Prop where
 mem:∀z,z∈e'↔z∈e
 up:e'.Pairwise λa b=>a.1<b.1
theorem Vq{e:List Enu}(hn:(e.map (·.1)).Nodup){a b:Enu}(ha:a∈e)(hb:b∈e)(h:a.1=b.1):a=b:=by
 obtain⟨i,hi,rfl⟩:=List.getElem_of_mem ha;obtain⟨j,G,rfl⟩:=List.getElem_of_mem hb;have:i=j:=(List.getElem?_inj (by simpa using hi) hn).mp (by rw [List.getElem?_map,List.getElem?_map,List.getElem?_eq_getElem hi,List.getElem?_eq_getElem G];exact congrArg some h);subst this
 rfl
def UZ(K:Fg):Sp:=λvs H Q _=>∃(d:Addr)(ev:List Ent)(e:List Enu),vs=[.ref d]/\H d=some (.dK (dKv ev))/\EsAt K H ev e/\EnOk e/\
 ∀(l:Addr)(ps:List (Addr×Ent))(e':List Enu)(H':Hp),Same H H'->H' l=some (.lst (39:))->H l=none->PsAt K H' ps e'->PsOf e e'->Q (.ref l) H'
def k1(kv:V):List (Str×V):=[("kinds",kv)]
def k2(kv mk:V):List (Str×V):=[("kinds",kv),("mark",mk)]
theorem f1(kv:V):ZK "kinds" kv []=k1 kv:=rfl
theorem f2(kv mk:V):ZK "mark" mk (k1 kv)=k2 kv mk:=by
 unfold k1 k2;rw [Xr (0:)];rfl
theorem f3(kv mk:V)(ln:Addr):ZK "needed" (.ref ln) (k2 kv mk)=ff kv mk ln:=by
 unfold k2 ff;rw [Xr (0:),Xr (0:)];rfl
section
variable{P:Program}{w:World}{K:Fg}{mg:Str->Option Value}{base:Heap}{f:Addr}{fd:FuncData}{C:Addr}
theorem Tt:FnScope ["self","kinds"] ["self","kinds"] (defScope sFI):=(1:)
theorem Ss(F:Fun K "__init__" "Fit.__init__" sFI f fd)(T0:FtT K mg C):FnOk P w K mg base CX0 1 f fd ["self","kinds"] (SH K C):=by
 refine F.ok Tt (7:) (λai A outer s H vs Q E hr h=>?_)
 .obtain⟨x,dx,G,kb,rfl,_⟩:=h
  rfl
 obtain⟨x,dx,G,kb,rfl,hx,hk,hl,q⟩:=h;refine⟨_,(Qf (Xq (pv 0) (pv 1) rfl)
  (Qf (Xq (pv 0) Zq rfl)
  (Qg (Xq (pv 0) (QK (CompG.many (xs:=["kind"]) (caps:=[]) (cap:=[]) (cs:=[]) rfl rfl (0:) (0:) (0:) (0:) (0:) (0:) rfl rfl rfl) rfl (Yl (pv 1)) (Z0 (CompG.many (xs:=["kind"]) (caps:=[]) (cap:=[]) (cs:=[]) rfl rfl (0:) (0:) (0:) (0:) (0:) (0:) rfl rfl rfl)) (λ_ _ _ _=>QX) (λ_ _ _ _=>Wn)) rfl)))),?_⟩
 refine⟨_,rfl,_,rfl,x,C,dx,_,rfl,hx,T0.cl,T0.nK,(by show 0<1000;decide),?_⟩;rw [f1];refine⟨_,rfl,x,C,dx,_,rfl,Qb,T0.cl,T0.nM,(by show 1<1000;decide),?_⟩;rw [f2];have g1:MV x H (upd (upd H x (.ins C dx (k1 (.ref G)))) x (.ins C dx (k2 (.ref G) .non))):=λb u n e=>by rw [Qh n,Qh n];exact e
 have L:upd (upd H x (.ins C dx (k1 (.ref G)))) x (.ins C dx (k2 (.ref G) .non)) x=some (.ins C dx (k2 (.ref G) .non)):=Qb;generalize upd (upd H x (.ins C dx (k1 (.ref G)))) x (.ins C dx (k2 (.ref G) .non))=H1 at g1 L;have af:SqT K H1 G (kb.map V.str):=InsAt.seqT ⟨C,dx,_,hx⟩ g1 hk;refine⟨_,rfl,G,rfl,⟨_,af⟩,λacc ab=>?_⟩;refine Yn (K:=K) (xs:=kb.map V.str) (cs:=[]) (tt:=λ_ H Q=>Q true H) (te:=Jg) (λi ys H'=>H' acc=some (.lst ys)/\Same H1 H'/\∃ds:List Addr,ys=ds.map V.ref/\ds.length=i/\ds.Nodup/\(∀d∈ds,H' d=some (.dK []))/\∀d∈ds,H1 d=none) ⟨Qb,Qe ab _,[],rfl,rfl,List.nodup_nil,λd J=>(nomatch J),λd J=>(nomatch J)⟩ ?_ ?_ ?_
 .rintro i ys H' _ ⟨_,g,_⟩;exact g.seqT af
 .rintro i y ys H' hi hy ⟨Y,g,ds,rfl,Z,ac,aa,ad⟩;refine QU λd J=>?_;have gd:=Qe J (.dK []);have M:=gd _ _ Y;refine Qv hi M (by rw [List.length_map]at hi;rw [List.length_map];lia) ⟨Qb,λb u e=>?_,ds++[d],by rw [List.map_append];rfl,by simp [Z],?_,λd' ae=>?_,λd' ae=>?_⟩
  .rw [Qh (Qi e ab)];exact gd _ _ (g _ _ e)
  .rw [List.nodup_append];refine⟨ac,by simp,λa ha b hb z=>?_⟩;have ag:b=d:=by simpa using hb
   have:=aa a ha;rw [z,ag,J]at this;cases this
  .rcases List.mem_append.mp ae with z | z
   .have:=gd _ _ (aa d' z);rw [Qh (Q3 this M (31:))];exact this
   .have U:d'=d:=by simpa using z
    rw [U];have:upd H' d (.dK []) d=some (.dK []):=Qb;rw [Qh (Q3 this M (31:))];exact this
  .rcases List.mem_append.mp ae with z | z
   .exact ad d' z
   .have U:d'=d:=by simpa using z
    rw [U];cases e:H1 d with
    | none=>rfl
    | some o=>rw [g _ _ e]at J;cases J
 rintro ys H2 ⟨Y,g2,ds,rfl,Z,ac,aa,ad⟩;rw [List.length_map]at Z;refine⟨_,rfl,x,C,dx,_,rfl,g2 _ _ L,T0.cl,T0.nN,(by show 2<1000;decide),?_⟩;rw [f3];refine q acc ds _ (λb u n e=>?_) (λd J=>?_) ⟨Qb,?_,Z,by show(List.replicate _ _).length=_;rw [List.length_replicate],λi d e a b=>?_,ac,λe he=>?_⟩
 .rw [Qh n];exact g2 _ _ (g1 _ _ n e)
 .have h1:=ad d J;cases e:H d with
  | none=>rfl
  | some o=>
   have ah:d≠x:=λz=>by rw [z,L]at h1;cases h1
   rw [g1 _ _ ah e]at h1;cases h1
 .rw [Qh (Q3 Y (g2 _ _ L) (31:))];exact Y
 .have hb:e=[]:=(List.mem_replicate.mp (List.mem_of_getElem? b)).2;have:=aa d (List.mem_of_getElem? a);rw [hb];exact⟨[],by rw [Qh (Q3 this (g2 _ _ L) (31:))];exact this,rfl,λk z w a=>(nomatch a)⟩
 .rw [(List.mem_replicate.mp he).2];exact⟨List.nodup_nil,λz U=>(nomatch U),λz U=>(nomatch U)⟩
end
theorem Gq{e:List Ent}(hn:(e.map (·.1)).Nodup){z:Ent}(hz:z∈e):ZG (dKv e) (Sum.inl z.1)=some z.2:=by
 induction e with
 | nil=>cases hz
 | cons a r G=>
  rw [List.map_cons,List.nodup_cons]at hn;show ZG (((Sum.inl a.1:Key),a.2)::dKv r) _=_;rcases List.mem_cons.mp hz with q | q
  .rw [Yv (p:=((Sum.inl a.1:Key),a.2)) (by rw [q]),q]
  .rw [YA (p:=((Sum.inl a.1:Key),a.2)) (λy=>hn.1 (by
    have:a.1=z.1:=by injection y
    rw [this];exact List.mem_map_of_mem (f:=λx:Ent=>x.1) q))]
   exact G hn.2 q
inductive SortD(d:Addr)(H:Hp)(Q:VK):Prop where
 | s (e:List Ent) (h:H d=some (.dK (dKv e))) (hl:e.length<64) (k:∀(out:List Int) p H',out.Perm (e.map (·.1))->out.Pairwise (·<=·)->Same H H'->H' p=some (.lst (out.map V.int))->Q (.ref p) H'):SortD d H Q
def Vn(_:Fg)(vs:List V)(H:Hp)(Q:VK):Prop:=match vs with
 | [.ref d]=>SortD d H Q
 | _=>False
theorem Vi(X:Cx)(hc:X.calm=true):QV X (.builtin "sorted") (Vn X.K):=by
 intro pins s σ H xs J Q I r h;unfold Vn at h;split at h
 .cases h with
  | s e h L k=>exact YJ hc pins s σ H _ J Q I r ⟨_,_,e.map (·.1),rfl,h,by unfold dKv;rw [List.map_map,List.map_map];rfl,by rw [List.length_map];exact L,λG p hp M U=>k G p _ hp M (Qe U _) Qb⟩
 .exact h.elim
theorem SD{X:Cx}{P:Program}{w:World}{K:Fg}{mg:Str->Option Value}{base:Heap}{k:Nat}(c:G3.Cxt X P w K mg base k){x:Str}{id:String}{r:Fg->List V->Hp->VK->Prop}(hc:∀X:Cx,X.calm=true->QV X (.builtin id) (r X.K))(hm:mg x=none)(hv:bootBuiltins x=some (.builtin id))(hn:x≠"__name__":=by decide):G3.CallOk X x (λ_ vs H Q=>r K vs H Q):=by
 obtain⟨rfl,rfl,rfl,rfl,rfl,J,G⟩:=c;exact .blt (hc X G) hm hv hn
inductive GetD(d:Addr)(m:Int)(H:Hp)(Q:VK):Prop where
 | g (e:List Ent) (z:Ent) (h:H d=some (.dK (dKv e))) (hn:(e.map (·.1)).Nodup) (hz:z∈e) (em:z.1=m) (q:Q z.2 H):GetD d m H Q
def OS(_:Fg):List V->Hp->VK->Prop:=G3.on2 λx y H Q=>match x,y with
 | .ref d,.int m=>GetD d m H Q
 | _,_=>False
theorem Lq{k:Nat}(X:Cx)(hr:Room k X.A):G3.NodeOk X G3.shIx (OS X.K):=.plain λe es Y G h=>by
 unfold G3.shIx at G;split at G
 .split at G
  .rename_i J;cases G;obtain⟨t,u,rfl,h1,h2⟩:=h.two;refine⟨G3.pe_mono (GB (J1 hr) (G3.pe_up h1) (G3.pe_up h2) (G3.ord_ix J)) λσ H Q q=>⟨_,q,λx H1 q=>⟨_,q,λy H2 q=>?_⟩⟩,rfl⟩;cases x with
   | ref d=>
    cases y with
    | int m=>
     cases q with
     | g e z h L M U q=>exact⟨d,_,rfl,by rw [<-U];exact(Gq L M) ▸ DGet.k (k:=Sum.inl z.1) h,q⟩
    | _=>exact False.elim q
   | _=>cases y<;>exact False.elim q
  .cases G
 .cases G
def PU:List G3.S:=[.ret (.comp 1 (.call 0 [.v 0]) [0] (.tup [.v 0,.nd 0 [.v 1,.v 0]]))]
def Rj(K:Fg):G3.En:=⟨K,[λ_ vs H Q=>Vn K vs H Q],[],[OS K],[]⟩
section
variable{P:Program}{w:World}{K:Fg}{mg:Str->Option Value}{base:Heap}{f:Addr}{fd:FuncData}{C:Addr}
theorem Oo:FnScope ["trees"] ["trees"] (defScope VI):=(1:)
theorem Ng(F:Fun K "pairs_of" "pairs_of" VI f fd)(G:Gm mg):FnOk P w K mg base CX0 1 f fd ["trees"] (UZ K):=by
 refine G3.Fun.okC F Oo (Rj K) PU (nk:=[G3.shIx]) (λX c=>⟨.cons (SD c Vi G.srt PyProof.Rows.boot_sorted) .nil,.nil,.cons (c.nodeR Lq) .nil⟩) (7:) (λH vs Q E h=>?_) G.rng
 .obtain⟨d,U,e,rfl,_⟩:=h
  rfl
 obtain⟨d,U,e,rfl,hd,hE,hO,q⟩:=h;have ac:U.length=e.length:=by have:=congrArg List.length hE.m;simpa using this
 have hl:=hO.len;have hn:(U.map (·.1)).Nodup:=by rw [hE.m];exact hO.nd
 refine .s U hd (3:) λJ p H1 hp hs g1 ep=>.l (J.map V.int) (SqL.of ep)<| .m (λacc i ys H'=>Same H1 H'/\H' acc=some (.lst ys)/\∃(ps:List (Addr×Ent))(L:List Enu),ys=ps.map (λp=>V.ref p.1)/\PsAt K H' ps L/\(∀z∈L,z∈e)/\L.map (·.1)=J.take i) ?_ (λacc H2 Z g Y=>⟨g,Y,[],[],rfl,⟨rfl,λk p z a=>(nomatch a)⟩,λz M=>(nomatch M),rfl⟩) (λacc i ys H2 ⟨g,_⟩=>SqL.of (g _ _ ep)) (λacc i ys H2 hi _ Z ⟨g,Y,ps,L,e1,h1,h2,h3⟩=>?_) λacc ys H2 Z ⟨g,Y,ps,L,e1,h1,h2,h3⟩=>?_
 .rw [List.length_map,hp.length_eq,List.length_map];lia
 .rw [List.length_map]at hi;have ex:((J.map V.int)[i]?).getD .non=.int J[i]:=by rw [List.getElem?_map,List.getElem?_eq_getElem hi];rfl
  rw [ex];obtain⟨z,M,ez⟩:=List.mem_map.mp (hp.mem_iff.mp (List.getElem_mem hi));obtain⟨k,hk,ek⟩:=List.getElem_of_mem M;have hy:=hE.v k z e[k] (by rw [List.getElem?_eq_getElem hk,ek]) (List.getElem?_eq_getElem (3:));have ey:z.1=e[k].1:=by
   have a:(U.map (·.1))[k]?=(e.map (·.1))[k]?:=by rw [hE.m]
   rw [List.getElem?_map,List.getElem?_map,List.getElem?_eq_getElem hk,List.getElem?_eq_getElem (show k<e.length by lia),ek]at a;exact Option.some.inj a
  refine .g U z ((g1.trans g) _ _ hd) hn M ez ⟨λpt X kk d _=>⟨kk _ _ Y,λb u eb=>?_,Qb,ps++[(pt,z)],L++[e[k]],by rw [e1,List.map_append];rfl,?_,λy aa=>?_,?_⟩⟩
  .rw [Qh (Qi eb Z)];exact kk _ _ (g _ _ eb)
  .have km:∀a xs,SqT K X a xs->SqT K (upd X acc (.lst (ys++[.ref pt]))) a xs:=λa xs h=>SqT.put h (kk _ _ Y);refine(h1.mono λa xs h=>km _ _ (kk.seqT h)).snoc ey ?_ (hy.mono λa xs h=>km _ _ (kk.seqT (g.seqT (g1.seqT h))));show SqT K _ pt [.int z.1,z.2];rw [ez];exact km _ _ d
  .rcases List.mem_append.mp aa with y1 | y1
   .exact h2 y y1
   .rw [List.mem_singleton.mp y1];exact List.getElem_mem _
  .rw [List.map_append,h3,List.take_succ,List.getElem?_eq_getElem hi];show _++[e[k].1]=_++[J[i]];rw [<-ey,ez]
 .rw [List.length_map,List.take_of_length_le (5:)]at h3;subst e1;refine q acc ps L H2 (g1.trans g) Y ?_ h1 ⟨λz=>⟨h2 z,λM=>?_⟩,?_⟩
  .cases e:H acc with
   | none=>rfl
   | some o=>rw [g1 _ _ e]at Z;cases Z
  .have:z.1∈L.map (·.1):=by rw [h3,hp.mem_iff,hE.m];exact List.mem_map_of_mem M
   obtain⟨y,hy,ey⟩:=List.mem_map.mp this;rw [<-Vq hO.nd (h2 y hy) M ey];exact hy
  .have ab:J.Nodup:=hp.nodup_iff.mpr hn;have:(L.map (·.1)).Pairwise (· <·):=by
    rw [h3];exact(hs.and ab).imp λ{a b} h=>by lia
   exact List.pairwise_map.mp this
end
abbrev Wt:=Addr×Addr×List (Addr×Ent)
structure WtAt(K:Fg)(H:Hp)(kind:Str)(e:List Enu)(w:Wt):Prop where
 t:SqT K H w.1 [.str kind,.ref w.2.1]
 l:H w.2.1=some (.lst (w.2.2.map λp=>V.ref p.1))
 p:PsAt K H w.2.2 e
theorem WtAt.same{K:Fg}{H H':Hp}{kind:Str}{e:List Enu}{w:Wt}(g:Same H H')(h:WtAt K H kind e w):WtAt K H' kind e w:=⟨g.seqT h.t,g _ _ h.l,h.p.mono λ_ _=>g.seqT⟩
theorem WtAt.put{K:Fg}{H:Hp}{kind:Str}{e:List Enu}{w:Wt}{acc:Addr}{ys:List V}{o:HO}(h:WtAt K H kind e w)(ha:H acc=some (.lst ys))(n:w.2.1≠acc):WtAt K (upd H acc o) kind e w:=⟨SqT.put h.t ha,by rw [Qh n];exact h.l,h.p.mono λ_ _ q=>SqT.put q ha⟩
structure WsAt(K:Fg)(H:Hp)(kb:List Str)(es:List (List Enu))(ws:List Wt):Prop where
 wl:ws.length=kb.length
 el:es.length=kb.length
 at_:∀(i:Nat) w kind e,ws[i]?=some w->kb[i]?=some kind->es[i]?=some e->WtAt K H kind e w
def Sn(K:Fg)(C:Addr):Sp:=λvs H Q _=>∃(z:Fs)(kb:List Str)(x dx kt:Addr)(ln:Addr)(ds:List Addr),vs=[.ref x]/\FitE K C H kb.length z x dx (.ref kt) ln ds/\SqT K H kt (kb.map V.str)/\kb.length<=10/\
 ∀(l:Addr)(ws:List Wt)(es':List (List Enu))(H':Hp),Same H H'->H' l=some (.lst (ws.map λw=>V.ref w.1))->H l=none->(∀w∈ws,H w.2.1=none/\w.2.1≠l)->WsAt K H' kb es' ws->(∀(i:Nat) e e',z.es[i]?=some e->es'[i]?=some e'->PsOf e e')->Q (.ref l) H'
section
variable{P:Program}{w:World}{K:Fg}{mg:Str->Option Value}{base:Heap}{f:Addr}{fd:FuncData}{C:Addr}
theorem S5:FnScope ["self"] ["self"] (defScope sHd):=(1:)
theorem Sd(F:Fun K "handed" "Fit.handed" sHd f fd)(G:Gm mg)(T0:FtT K mg C)(RP:Fn P w K mg base 1 "pairs_of" ["trees"] (UZ K)):FnOk P w K mg base CX0 2 f fd ["self"] (Sn K C):=by
 refine F.ok S5 (7:) (λap A outer s H vs Q E hr h=>?_)
 .obtain⟨z,kb,x,dx,kt,ln,ds,rfl,_⟩:=h
  rfl
 obtain⟨z,kb,x,dx,kt,ln,ds,rfl,Z,hk,aq,q⟩:=h;refine⟨_,(Qg (Ql (QK (CompG.many (xs:=["kind","trees"]) (caps:=[]) (cap:=[]) (cs:=[]) rfl rfl (0:) (0:) (0:) (0:) (0:) (0:) rfl rfl rfl) rfl (OK rfl G.zip (Qa (Ji (pv 0) rfl) (Qa (Ji (pv 0) rfl) Qc))) (UK (CompG.many (xs:=["kind","trees"]) (caps:=[]) (cap:=[]) (cs:=[]) rfl rfl (0:) (0:) (0:) (0:) (0:) (0:) rfl rfl rfl) rfl) (λ_ _ _ _=>QX) (λ_ _ _ _=>(QD (Qa (pv 0) (Qa (Qp RP hr (Qa (pv 1) Qc)) Qc))))))),?_⟩;refine⟨_,rfl,x,C,dx,_,_,rfl,Z.hx,T0.cl,T0.nK,rfl,_,rfl,x,C,dx,_,_,rfl,Z.hx,T0.cl,T0.nN,rfl,kt,ln,_,_,rfl,hk,SqL.of Z.hl,λacc aa=>?_⟩;refine NT (K:=K) (xs:=kb.map V.str) (zs:=ds.map V.ref) (cs:=[]) (tt:=λ_ H Q=>Q true H) (by rw [List.length_map,List.length_map,Z.dl]) (λi ys H'=>H' acc=some (.lst ys)/\Same H H'/\∃(U:List Wt)(J:List (List Enu)),ys=U.map (λw=>V.ref w.1)/\U.length=i/\J.length=i/\(∀w∈U,H w.2.1=none/\w.2.1≠acc)/\(∀(i:Nat) w kind e,U[i]?=some w->kb[i]?=some kind->J[i]?=some e->WtAt K H' kind e w)/\∀(i:Nat) e e',z.es[i]?=some e->J[i]?=some e'->PsOf e e') ⟨Qb,Qe aa _,[],[],rfl,rfl,rfl,λw M=>(nomatch M),λi w kind e h=>(nomatch h),λi e e' _ h=>(nomatch h)⟩ ?_ ?_ ?_
 .rintro i ys H' _ ⟨_,g,_⟩;exact⟨g.seqT hk,SqL.of (g _ _ Z.hl)⟩
 .rintro i u v p ys H' hi hu hv hp ⟨ac,g,U,J,rfl,ad,ae,af,ag,ah⟩;rw [List.length_map]at hi;have gp:=Qe hp (.tup [u,v]);obtain⟨kind,aj⟩: ∃k,kb[i]?=some k:=⟨_,List.getElem?_eq_getElem hi⟩;obtain⟨d,hd⟩: ∃d,ds[i]?=some d:=⟨_,List.getElem?_eq_getElem (by rw [Z.dl];exact hi)⟩;obtain⟨e,he⟩: ∃d,z.es[i]?=some d:=⟨_,List.getElem?_eq_getElem (by rw [Z.el];exact hi)⟩;obtain⟨ev,al,hE⟩:=Z.hd i d e hd he;obtain rfl:u=.str kind:=by rw [List.getElem?_map,aj]at hu;exact(Option.some.inj hu).symm
  obtain rfl:v=.ref d:=by rw [List.getElem?_map,hd]at hv;exact(Option.some.inj hv).symm
  have gg:=g.trans gp;refine QU ⟨_,rfl,_,rfl,d,ev,e,rfl,gg _ _ al,hE.mono λ_ _=>gg.seqT,Z.en e (List.mem_of_getElem? he),λl ps e' H2 g2 el nl hP am=>⟨(28:),λpt an=>?_⟩⟩;have gt:=Qe an (.tup [.str kind,.ref l]);have ai:=g2.trans gt;have ha:=ai _ _ (gp _ _ ac);have ak:l≠acc:=λz=>by rw [z,gp _ _ ac]at nl;cases nl
  have ao:H l=none:=by
   cases e:H l with
   | none=>rfl
   | some o=>rw [gg _ _ e]at nl;cases nl
  have gF:=gg.trans ai;refine Qv (by rw [List.length_map];exact hi) ha (29:) ⟨Qb,λb o eb=>?_,U++[(pt,l,ps)],J++[e'],by rw [List.map_append];rfl,by simp [ad],by simp [ae],λw M=>?_,λj w kd e1 M ab L=>?_,λj e1 e2 L Y=>?_⟩
  .rw [Qh (Qi eb aa)];exact gF _ _ eb
  .rcases List.mem_append.mp M with z | z
   .exact af w z
   .rw [List.mem_singleton.mp z];exact⟨ao,ak⟩
  .by_cases hj:j<U.length
   .rw [List.getElem?_append_left hj]at M;rw [List.getElem?_append_left (3:)]at L;exact((ag j w kd e1 M ab L).same (gp.trans ai)).put ha (af w (List.mem_of_getElem? M)).2
   .rw [List.getElem?_append_right (3:)]at M;rw [List.getElem?_append_right (3:)]at L;have ej:j-U.length=0:=by
     cases hq:j-U.length with
     | zero=>rfl
     | succ q=>rw [hq]at M;cases M
    rw [ej]at M;rw [show j-J.length=0 by lia]at L;cases M;cases L;have:j=i:=by lia
    subst this;rw [aj]at ab;cases ab;exact⟨SqT.put (SqT.of Qb) ha,by rw [Qh ak];exact gt _ _ el,hP.mono λ_ _ q=>SqT.put (gt.seqT q) ha⟩
  .by_cases hj:j<J.length
   .rw [List.getElem?_append_left hj]at Y;exact ah j e1 e2 L Y
   .rw [List.getElem?_append_right (3:)]at Y;have ej:j-J.length=0:=by
     cases hq:j-J.length with
     | zero=>rfl
     | succ q=>rw [hq]at Y;cases Y
    rw [ej]at Y;cases Y;have:j=i:=by lia
    subst this;rw [he]at L;cases L;exact am
 rintro ys H2 ⟨ac,g,U,J,rfl,ad,ae,af,ag,ah⟩;rw [List.length_map]at ad ae;exact q acc U J H2 g ac aa af ⟨ad,ae,ag⟩ ah
end
end K70
namespace K70
open PySem L2 TM TT ST K9 K11
structure FtM(P:Program)(w:World)(K:Fg)(mg:Str->Option Value)(base:Heap)(C:Addr):Prop where
 t:FtT K mg C
 mi:∃f fd,Mk K C f/\FnOk P w K mg base CX0 1 f fd ["self","kinds"] (SH K C)/\Binds K fd ["self","kinds"] []
 go:Mt P w K mg base C 6 "goes_onto" ["self","term","tree"] (Vp K C 3)
 hd:Mt P w K mg base C 2 "handed" ["self"] (Sn K C)
structure GivenE(K:Fg)(H:Hp)(ms:List MdT)(kind:Str)(wa wl:Addr)(ps:List (Addr×Ent))(e:List Enu):Prop where
 t:SqT K H wa [.str kind,.ref wl]
 l:SqL K H wl (39:)
 p:PsAt K H ps e
 k:∀z∈e,(∃(k:Nat)(md:MdT),z.1=(k:Int)/\ms[k]?=some md/\md.2.1=kind)/\GT 50 z.2
 n:e.length<=10
theorem GivenE.same{K:Fg}{H H':Hp}{ms:List MdT}{kind:Str}{wa wl:Addr}{ps:List (Addr×Ent)}{e:List Enu}(g:Same H H')(h:GivenE K H ms kind wa wl ps e):GivenE K H' ms kind wa wl ps e:=
 ⟨g.seqT h.t,g.seq h.l,h.p.mono λ_ _=>g.seqT,h.k,h.n⟩
theorem Nt{ks:List KdT}(hn:(ks.map λk=>k.2.1).Nodup){a b:KdT}(ha:a∈ks)(hb:b∈ks)(e:a.2.1=b.2.1):a=b:=by
 obtain⟨i,hi,rfl⟩:=List.getElem_of_mem ha;obtain⟨j,G,rfl⟩:=List.getElem_of_mem hb;have:i=j:=(List.getElem?_inj (by simpa using hi) hn).mp (by rw [List.getElem?_map,List.getElem?_map,List.getElem?_eq_getElem hi,List.getElem?_eq_getElem G];exact congrArg some e);subst this
 rfl
theorem NJ{ks:List KdT}(hO:WoodOk ks){kd:KdT}(hk:kd∈ks){j:Nat}{r:PNx}(hr:kd.2.2.2[j]?=some r):Vv ks kd.2.1 r.2.1=some r.2.2.2:=by
 unfold Vv;rw [ZZ hO.nd hk,UX (i:=j) hr (decide_eq_true rfl) λi y hi G=>decide_eq_false λz=>Nat.ne_of_lt hi (Ut (hO.rows kd hk).nd G hr z)]
 rfl
theorem Nc{ks:List KdT}(hO:WoodOk ks){kd:KdT}(hk:kd∈ks){md:MdT}(em:kd.2.1=md.2.1){j:Nat}{r:PNx}{t:Tm}(hr:kd.2.2.2[j]?=some r)(ht:md.2.2.2.2[j]?=some t):Xj ks md.md r.2.1=some t:=by
 unfold Xj;show((((QF ks md.2.1).zip md.2.2.2.2).find? λx=>decide (x.1.2.1=r.2.1)).map (·.2))=some t;rw [<-em,ZZ hO.nd hk];have G:(kd.2.2.2.zip md.2.2.2.2)[j]?=some (r,t):=List.getElem?_zip_eq_some.mpr ⟨hr,ht⟩;rw [UX (i:=j) G (decide_eq_true rfl) λi y hi J=>decide_eq_false λz=>Nat.ne_of_lt hi (Ut (hO.rows kd hk).nd (List.getElem?_zip_eq_some.mp J).1 hr z)]
 rfl
theorem N4{ks:List KdT}(hO:WoodOk ks){kd:KdT}(hk:kd∈ks){nm:Str}(h:∀r∈kd.2.2.2,r.2.1≠nm):Vv ks kd.2.1 nm=none:=by
 unfold Vv;rw [ZZ hO.nd hk,List.find?_eq_none.mpr λr G=>by
  simp only [decide_eq_true_eq];exact h r G]
 rfl
theorem W0{ms:List MdT}(h4:ms.length<=4){kb:List Str}{t:Tm}(h:JT (ms.map λm=>m.2.1) kb t):∃cs:List (Int×Int),TDr cs t/\∀c∈cs,∃k j:Nat,c=((k:Int),(j:Int))/\k<10/\j<kb.length:=by
 obtain⟨cs,h1,h2⟩:=h;refine⟨cs,h2,λc G=>?_⟩;obtain⟨k,j,z,e,a,b⟩:=h1 c G;have:=(List.getElem?_eq_some_iff.mp a).1;rw [List.length_map]at this;exact⟨k,j,e,by lia,(List.getElem?_eq_some_iff.mp b).1⟩
def ZY(ms:List MdT)(j:Nat)(m:Int):Tm:=((ms[m.toNat]?).bind λmd=>md.2.2.2.2[j]?).getD (Rl 0 0)
def gos:List Tm->List (40:)->Fs->Option Fs
 | t::ts,u::us,s=>if(go 3 t u s).1=true then gos ts us (go 3 t u s).2 else none
 | _,_,s=>some s
def Y8(ms:List MdT)(j w:Nat)(e:List Enu):Option Fs:=gos (e.map λz=>ZY ms j z.1) (e.map (·.2)) ⟨none,List.replicate w []⟩
def X6(K:Fg)(C:Addr):Sp:=λvs H Q _=>∃(tu wd lm wa wl:Addr)(sv:V)(ks:List KdT)(st:Tm)(ms:List MdT)(c:Int)(ps:List (Addr×Ent))(e:List Enu)(kd:KdT)(nm:Str),vs=[.ref tu,.ref wa,.str nm]/\TurnD K H tu wd lm sv ks st ms/\DWood c ks/\DTurn ks st ms/\GivenE K H ms kd.2.1 wa wl ps e/\kd∈ks/\
 ((∀r∈kd.2.2.2,r.2.1≠nm)/\(∀H',Same H H'->Q .non H')\/∃(j:Nat)(r:PNx),kd.2.2.2[j]?=some r/\r.2.1=nm/\(Y8 ms j r.2.2.2.length e=none->∀H',Same H H'->Q .non H')/\
   ∀z,Y8 ms j r.2.2.2.length e=some z->∀(x dx kt:Addr)(ln:Addr)(ds:List Addr)(H':Hp),Same H H'->FitE K C H' r.2.2.2.length z x dx (.ref kt) ln ds->SqT K H' kt (r.2.2.2.map V.str)->Q (.ref x) H')
section
variable{P:Program}{w:World}{K:Fg}{mg:Str->Option Value}{base:Heap}{f:Addr}{fd:FuncData}{C:Addr}
theorem Y6:FnScope ["turning","want","name","kinds","fit","mode","tree"] ["turning","want","name"] (defScope Vy):=(1:)
theorem MD(F:Fun K "fit_of" "fit_of" Vy f fd)(M:FtM P w K mg base C)(RR:Fn P w K mg base 2 "row_of" ["wood","kind","name"] (XC K))(RU:Fn P w K mg base 2 "rule_of" ["turning","mode","name"] (Ms K)):FnOk P w K mg base CX0 7 f fd ["turning","want","name"] (X6 K C):=by
 obtain⟨fI,az,ak,FI,bI⟩:=M.mi;have T0:=M.t;refine F.ok Y6 (7:) (λa0 A outer s H vs Q E hr h=>?_)
 .obtain⟨tu,wd,lm,wa,wl,sv,ks,st,ms,c,ps,e,kd,nm,rfl,_⟩:=h
  rfl
 obtain⟨tu,wd,lm,wa,wl,sv,ks,st,ms,c,ps,e,kd,nm,rfl,hT,L,hD,U,J,q⟩:=h;have al:Room 2 _:=hr.mono (3:);refine⟨_,(Qf (Qo (i:=3) Y6.nd rfl (9:) (Qp RR hr (Qa (25:) (Qa (27:) (Qa (pv 2) Qc)))))
  (Qf (QC (YQ (Jq (pv 3))) (Qg (Ql Zq)) Qq)
  (Qf (Qo (i:=4) Y6.nd rfl (9:) (Ge ak FI al rfl T0.mgC bI .nil Wi (Qa (pv 3) Qc)))
  (Qf (QL PassesOwn.never rfl (QG (27:)) (Zs rfl (Qy (Qt (i:=5) Y6.nd rfl (9:)) (Qy (Qt (i:=6) Y6.nd rfl (9:)) Zg))) (Qg (QC (Zh (QS (V1 M.go T0.cl hr (pv 4) (Qa (Qp RU hr (Qa (pv 0) (Qa (pv 5) (Qa (pv 2) Qc)))) (Qa (pv 6) Qc))))) (Qg (Ql Zq)) Qq)))
  (Qg (Ql (pv 4))))))),?_⟩
 refine⟨_,rfl,tu,_,0,_,rfl,rfl,hT.tu,rfl,_,rfl,wa,_,0,_,rfl,rfl,U.t,rfl,_,rfl,wd,kd.2.1,nm,ks,rfl,hT.w,L.ok,λv H1 g1 hv=>?_⟩;rcases q with⟨am,q⟩ | ⟨j,r,Y,rfl,qn,q⟩
 .rw [N4 L.ok J am]at hv;obtain rfl:v=.non:=hv;exact⟨_,rfl,_,rfl,JJ rfl (q H1 g1)⟩
 rw [NJ L.ok J Y]at hv;obtain⟨kt,rfl,af⟩:=hv;refine⟨_,rfl,_,rfl,JO (46:) ?_⟩;have a1:=(L.ok.rows kd J).kl r (List.mem_of_getElem? Y);refine⟨_,rfl,λx dx nx ab ne=>⟨x,dx,kt,r.2.2.2,rfl,Qb,?_,by lia,λln ds H2 g2 an F0=>?_⟩⟩
 .exact(Qe (p:=x) (by rw [Qh (λz=>ne z.symm)];exact nx) _).seqT ((Qe ab _).seqT af)
 have s2:Same H1 H2:=λb o e=>g2 _ _ (Qi e nx) (by rw [Qh (Qi e nx),Qh (Qi e ab)];exact e);have ac:=g1.trans s2;have ao:H x=none:=by
  cases e:H x with
  | none=>rfl
  | some o=>rw [g1 _ _ e]at nx;cases nx
 have ap:∀d∈ds,H d=none:=λd hd=>by
  have h1:=an d hd;cases e:H d with
  | none=>rfl
  | some o=>
   have e1:=g1 _ _ e;rw [Qh (Qi e1 nx),Qh (Qi e1 ab),e1]at h1;cases h1
 refine⟨rfl,_,rfl,wa,_,1,_,rfl,rfl,ac.seqT U.t,rfl,wl,rfl,⟨_,ac.seq U.l⟩,?_⟩;have a3:ps.length=e.length:=by have:=congrArg List.length U.p.m;simpa using this
 refine Zn (K:=K) (xs:=ps.map λp=>V.ref p.1) (λi σ H'=>∃(c5 c6:Option V)(z:Fs),σ=[some (.ref tu),some (.ref wa),some (.str r.2.1),some (.ref kt),some (.ref x),c5,c6]/\Same H H'/\SqT K H' kt (r.2.2.2.map V.str)/\FitE K C H' r.2.2.2.length z x dx (.ref kt) ln ds/\Y8 ms j r.2.2.2.length e=gos ((e.drop i).map λz=>ZY ms j z.1) ((e.drop i).map (·.2)) z) ⟨none,none,_,rfl,ac,s2.seqT af,F0,rfl⟩ ?_ ?_ ?_
 .rintro i σ H' _ ⟨_,_,_,_,g,_⟩;exact g.seq U.l
 .rintro i y σ H3 hy ⟨c5,c6,z,rfl,g3,Z,F3,G⟩;have hi:=(50:).1;rw [List.length_map]at hi;rw [List.getElem?_map,List.getElem?_eq_getElem hi]at hy;have aa:i<e.length:=by lia
  obtain⟨ag,ad⟩:=(U.same g3).p.v i ps[i] e[i] (24:) (List.getElem?_eq_getElem aa);have hm:ps[i].2.1=e[i].1:=by
   have a:(ps.map λp=>p.2.1)[i]?=(e.map (·.1))[i]?:=by rw [U.p.m]
   rw [List.getElem?_map,List.getElem?_map,List.getElem?_eq_getElem hi,List.getElem?_eq_getElem aa]at a;exact Option.some.inj a
  obtain⟨⟨k,md,a2,a4,a5⟩,a6⟩:=U.k e[i] (List.getElem_mem aa);have aq:e.drop i=e[i]::e.drop (i+1):=List.drop_eq_getElem_cons aa;rw [aq]at G;generalize ps[i]=p at hy ag ad hm;generalize e[i]=ei at ad hm a2 a6 G;cases hy;obtain⟨ar,c1,c2,c3,c4⟩:=(hD.md md (List.mem_of_getElem? a4)).ex;obtain rfl:ar=kd:=Nt L.ok.nd c1 J (c2.trans a5);have as:j<md.2.2.2.2.length:=by rw [c3];exact(List.getElem?_eq_some_iff.mp Y).1
  obtain⟨t,ht⟩: ∃t,md.2.2.2.2[j]?=some t:=⟨_,List.getElem?_eq_getElem as⟩;obtain⟨ai,au⟩:=c4 j r t Y ht;obtain⟨cs,av,aw⟩:=W0 hD.four ai;have ax:=Nc L.ok J c2 Y ht;have ay:ZY ms j ei.1=t:=by
   unfold ZY;rw [a2,Int.toNat_natCast,a4];show(md.2.2.2.2[j]?).getD _=t;rw [ht]
   rfl
  have ae:=hT.same g3;have aj:md.2.2.2.2.length=(QF ks md.2.1).length:=by rw [<-c2,ZZ L.ok.nd J];exact c3
  refine⟨p.1,_,rfl,ag,rfl,_,_,rfl,_,_,rfl,rfl,?_⟩;refine⟨_,rfl,x,dx,_,rfl,F3.hx,rfl,_,rfl,_,rfl,_,rfl,tu,wd,lm,sv,k,r.2.1,ks,ms,md,by rw [hm,a2];rfl,ae.tu,ae.w,L.ok,ae.m,a4,aj,λtv H4 g4 ah=>?_⟩;rw [ax]at ah;refine⟨_,rfl,r.2.2.2.length,z,x,dx,.ref kt,ln,ds,tv,p.2.2,t,ei.2,cs,rfl,F3.same g4,by lia,ah,trS g4 ad,a6,au,av,aw,λH5 g5 F5=>⟨_,rfl,?_⟩⟩;have s5:Same H H5:=λb o e=>g5 _ _ (Qi e ao) (λz=>by rw [ap b z]at e;cases e) (g4 _ _ (g3 _ _ e));have G:Y8 ms j r.2.2.2.length e=if(go 3 (ZY ms j ei.1) ei.2 z).1=true then gos ((e.drop (i+1)).map λz=>ZY ms j z.1) ((e.drop (i+1)).map (·.2)) (go 3 (ZY ms j ei.1) ei.2 z).2 else none:=G;rw [ay]at G;generalize go 3 t ei.2 z=zr at F5 G;obtain⟨zb,z1⟩:=zr;cases zb with
  | true=>
   rw [if_pos rfl]at G;exact Zc ⟨_,_,z1,rfl,s5,(F3.same g4).seqT g5 (g4.seqT Z),F5,G⟩
  | false=>
   rw [if_neg Bool.false_ne_true]at G;exact QU (qn G H5 s5)
 .rintro σ H3 ⟨c5,c6,z,rfl,g3,Z,F3,G⟩;rw [List.length_map,List.drop_of_length_le (3:)]at G;exact⟨_,rfl,q z G x dx kt ln ds H3 g3 F3 Z⟩
end
end K70
namespace L2
open PySem
theorem Same.back{H H':Hp}(g:Same H H'){a:Addr}(h:H' a=none):H a=none:=by
 cases e:H a with
 | none=>rfl
 | some o=>rw [g _ _ e]at h;cases h
end L2
namespace K70
open PySem L2 TM TT ST K9 K11
structure NewW(K:Fg)(H:Hp)(kb:List Str)(z:Fs)(l:Addr)(ws:List Wt)(es':List (List Enu))(H':Hp):Prop where
 g:Same H H'
 hl:H' l=some (.lst (ws.map λw=>V.ref w.1))
 nl:H l=none
 nw:∀w∈ws,H w.2.1=none/\w.2.1≠l
 w:WsAt K H' kb es' ws
 e:∀(i:Nat) e e',z.es[i]?=some e->es'[i]?=some e'->PsOf e e'
def NK(K:Fg):Sp:=λvs H Q _=>∃(tu wd lm wa wl:Addr)(sv:V)(ks:List KdT)(st:Tm)(ms:List MdT)(c:Int)(ps:List (Addr×Ent))(e:List Enu)(kd:KdT)(nm:Str),vs=[.ref tu,.ref wa,.str nm]/\TurnD K H tu wd lm sv ks st ms/\DWood c ks/\DTurn ks st ms/\GivenE K H ms kd.2.1 wa wl ps e/\kd∈ks/\
 ((∀r∈kd.2.2.2,r.2.1≠nm)/\(∀H',Same H H'->Q .non H')\/∃(j:Nat)(r:PNx),kd.2.2.2[j]?=some r/\r.2.1=nm/\(Y8 ms j r.2.2.2.length e=none->∀H',Same H H'->Q .non H')/\
   ∀z,Y8 ms j r.2.2.2.length e=some z->∀l ws es' H',NewW K H r.2.2.2 z l ws es' H'->Q (.ref l) H')
def Ua(K:Fg):Sp:=λvs H Q _=>∃(tu wd lm:Addr)(sv v:V)(ks:List KdT)(st:Tm)(ms:List MdT)(c:Int)(k0:KdT)(u:Tree Str),vs=[.ref tu,v]/\TurnD K H tu wd lm sv ks st ms/\DWood c ks/\DTurn ks st ms/\ks[0]?=some k0/\TrV K H v u/\GT 50 u/\
 ((35:).1=false->∀H',Same H H'->Q .non H')/\
 ((35:).1=true->∀(w:Wt)(e e':List Enu)(H':Hp),Same H H'->(35:).2.es=[e]->PsOf e e'->WtAt K H' k0.2.1 e' w->Q (.ref w.1) H')
section
variable{P:Program}{w:World}{K:Fg}{mg:Str->Option Value}{base:Heap}{f:Addr}{fd:FuncData}{C:Addr}
theorem RL:FnScope ["turning","want","name","fit"] ["turning","want","name"] (defScope sHO):=(1:)
theorem Sx(F:Fun K "handed_on" "handed_on" sHO f fd)(M:FtM P w K mg base C)(RF:Fn P w K mg base 7 "fit_of" ["turning","want","name"] (X6 K C)):FnOk P w K mg base CX0 8 f fd ["turning","want","name"] (NK K):=by
 have T0:=M.t;refine F.ok RL (7:) (λaf A outer s H vs Q E Z h=>?_)
 .obtain⟨tu,wd,lm,wa,wl,sv,ks,st,ms,c,ps,e,Y,nm,rfl,_⟩:=h
  rfl
 obtain⟨tu,wd,lm,wa,wl,sv,ks,st,ms,c,ps,e,Y,nm,rfl,hT,hW,hD,hG,L,q⟩:=h;have aa:Room 2 _:=Z.mono (3:);refine⟨_,(Qf (Qo (i:=3) RL.nd rfl (9:) (Qp RF Z (Qa (pv 0) (Qa (pv 1) (Qa (pv 2) Qc)))))
  (Qg (Ql (Jz (YQ (Jq (pv 3))) Zq (MQ M.hd T0.cl aa (pv 3)))))),?_⟩
 refine⟨_,rfl,_,rfl,_,rfl,tu,wd,lm,wa,wl,sv,ks,st,ms,c,ps,e,Y,nm,rfl,hT,hW,hD,hG,L,?_⟩;rcases q with⟨ab,q⟩ | ⟨j,r,U,ac,qn,q⟩
 .exact .inl ⟨ab,λH1 G=>⟨_,rfl,_,rfl,JJ rfl (q H1 G)⟩⟩
 refine .inr ⟨j,r,U,ac,λhf H1 G=>⟨_,rfl,_,rfl,JJ rfl (qn hf H1 G)⟩,λz hz x dx kt ln ds H1 G FS ad=>?_⟩;have ag:=(hW.ok.rows Y L).kl r (List.mem_of_getElem? U);refine⟨_,rfl,_,rfl,JO (46:) ⟨_,rfl,x,dx,_,rfl,FS.hx,rfl,z,r.2.2.2,x,dx,kt,ln,ds,rfl,FS,ad,by lia,λl ws ae H2 g2 el nl nw J he=>q z hz l ws ae H2 ⟨G.trans g2,el,G.back nl,λw J=>⟨G.back (nw w J).1,(nw w J).2⟩,J,he⟩⟩⟩
theorem WG:FnScope ["turning","tree","fit"] ["turning","tree"] (defScope XV):=(1:)
theorem Ly(F:Fun K "wanted" "wanted" XV f fd)(M:FtM P w K mg base C):FnOk P w K mg base CX0 7 f fd ["turning","tree"] (Ua K):=by
 obtain⟨fI,ar,ak,FI,bI⟩:=M.mi;have T0:=M.t;refine F.ok WG (7:) (λas A outer s H vs Q E hr h=>?_)
 .obtain⟨tu,wd,lm,sv,v,ks,st,ms,c,G,u,rfl,_⟩:=h
  rfl
 obtain⟨tu,wd,lm,sv,v,ks,st,ms,c,G,u,rfl,Z,hW,hD,aa,hv,hG,qn,q⟩:=h;have ae:Room 2 _:=hr.mono (3:);refine⟨_,(Qf (Qo (i:=2) WG.nd rfl (9:) (Ge ak FI ae rfl T0.mgC bI .nil Wi (Qa ((QD (Qa (Qk Qj (Qk Qw (25:) Qd (2:)) Qd (2:)) Qc))) Qc)))
  (Qg (Ql (Jz (QS (V1 M.go T0.cl hr (pv 2) (Qa (25:) (Qa (pv 1) Qc)))) (Qk Qw (MQ M.hd T0.cl ae (pv 2)) Qd (2:)) Zq)))),?_⟩
 have ah:=List.mem_of_getElem? aa;have al:atI (ks.map λk=>V.ref k.1) (0:Int)=some (.ref G.1):=QB (j:=0) (by rw [List.getElem?_map,aa];rfl);refine⟨_,rfl,tu,_,0,_,rfl,rfl,Z.tu,rfl,wd,_,0,_,rfl,rfl,Z.w.1,al,G.1,_,0,_,rfl,rfl,(Z.w.2 G ah).1,rfl,(by show 1<=sizeLine;decide),λJ am=>?_⟩;have gk:=Qe am (.tup [.str G.2.1]);have L:SqT K (upd H J (.tup [.str G.2.1])) J ([G.2.1].map V.str):=SqT.of Qb;show ∀x dx,_;generalize upd H J (.tup [.str G.2.1])=H1 at gk L;refine λx dx nx ab ne=>⟨x,dx,J,[G.2.1],rfl,Qb,?_,by show 1<=10;decide,λln ds H2 g2 an F0=>?_⟩
 .exact(Qe (p:=x) (by rw [Qh (λz=>ne z.symm)];exact nx) _).seqT ((Qe ab _).seqT L)
 have s2:Same H1 H2:=λb o e=>g2 _ _ (Qi e nx) (by rw [Qh (Qi e nx),Qh (Qi e ab)];exact e);have ac:=gk.trans s2;obtain⟨ai,au⟩:=hD.st G aa;obtain⟨cs,ao,ap⟩:=W0 hD.four ai;refine⟨rfl,_,rfl,x,dx,_,rfl,F0.hx,rfl,_,rfl,tu,_,1,_,rfl,rfl,ac.seqT Z.tu,rfl,_,rfl,1,_,x,dx,.ref J,ln,ds,sv,v,st,u,cs,rfl,F0,by decide,tmS ac Z.s,trS ac hv,hG,by lia,ao,ap,λH3 g3 F3=>⟨_,rfl,?_⟩⟩;have s3:Same H H3:=λb o e=>by
  have e1:=gk _ _ e;refine g3 _ _ (Qi e1 nx) (λz=>?_) (s2 _ _ e1);have h1:=an b z;rw [Qh (Qi e1 nx),Qh (Qi e1 ab),e1]at h1;cases h1
 have F3:FitE K C H3 1 (35:).2 x dx (.ref J) ln ds:=F3;show if(35:).1=true then _ else _;cases hb:(go 3 st u ⟨none,[[]]⟩).1 with
 | false=>exact Zc (qn hb H3 s3)
 | true=>
 have aj:=F0.seqT g3 (s2.seqT L);refine QU ⟨_,rfl,x,dx,_,rfl,F3.hx,rfl,_,[G.2.1],x,dx,J,ln,ds,rfl,F3,aj,by show 1<=10;decide,λl ws af H4 g4 el nl nw ad aq=>?_⟩;obtain⟨Y,rfl⟩: ∃Y,ws=[Y]:=by
  match ws,ad.wl with
  | [Y],_=>exact⟨Y,rfl⟩
 obtain⟨U,rfl⟩: ∃U,af=[U]:=by
  match af,ad.el with
  | [U],_=>exact⟨U,rfl⟩
 obtain⟨e0,ag⟩: ∃e,(go 3 st u ⟨none,[[]]⟩).2.es=[e]:=by
  have h1:=F3.el;generalize (35:).2.es=es at h1
  match es,h1 with
  | [e],_=>exact⟨e,rfl⟩
 exact⟨l,_,0,_,rfl,rfl,SqL.of el,rfl,q hb Y e0 U H4 (s3.trans g4) ag (aq 0 e0 U (by rw [ag];rfl) rfl) (ad.at_ 0 Y G.2.1 U rfl rfl rfl)⟩
end
end K70
namespace ST
open PySem TM TT L2 K11 K9
theorem UY{K:Fg}{d a:Addr}{H H':Hp}{xs:List V}(g:SameD d H H')(hd:Dk H d)(hx:∃b,V.ref b∈xs)(h:SqL K H a xs):SqL K H' a xs:=by
 obtain⟨ys,e⟩:=hd;obtain⟨b,G⟩:=hx;rcases h with(h | ⟨J,h⟩) | h
 .refine .inl (.inl (g _ _ (λz=>?_) h));rw [z,e]at h;injection h with h;injection h with h;rw [<-h]at G;obtain⟨_,_,z⟩:=List.mem_map.mp G;cases z
 .refine .inl (.inr ⟨J,g _ _ (λz=>?_) h⟩);rw [z,e]at h;injection h with h;cases h
 .exact .inr h
theorem TurnD.sameD{K:Fg}{H H':Hp}{d tu wd lm:Addr}{sv:V}{ks:List KdT}{st:Tm}{ms:List MdT}(g:SameD d H H')(hd:Dk H d)(hk:0<ks.length)(hr:∀k∈ks,∃r,r∈k.2.2.2)(hm:0<ms.length)(ht:∀m∈ms,0<m.2.2.2.2.length)(h:TurnD K H tu wd lm sv ks st ms):TurnD K H' tu wd lm sv ks st ms:=by
 have G:∀a xs,SqT K H a xs->SqT K H' a xs:=λ_ _=>g.seqT hd;refine⟨G _ _ h.tu,⟨UY g hd ⟨ks[0].1,List.mem_map.mpr ⟨_,List.getElem_mem hk,rfl⟩⟩ h.w.1,λk M=>?_⟩,h.s.mono G,⟨UY g hd ⟨ms[0].1,List.mem_map.mpr ⟨_,List.getElem_mem hm,rfl⟩⟩ h.m.1,λm J=>?_⟩⟩
 .obtain⟨Y,a2,L⟩:=h.w.2 k M;obtain⟨r,Z⟩:=hr k M;exact⟨G _ _ Y,UY g hd ⟨r.1,List.mem_map.mpr ⟨r,Z,rfl⟩⟩ a2,λt ht=>⟨G _ _ (L t ht).1,G _ _ (L t ht).2⟩⟩
 .obtain⟨Y,a2,L⟩:=h.m.2 m J;obtain⟨v,hv,U⟩:=L.get (List.getElem?_eq_getElem (ht m J));obtain⟨b,rfl⟩: ∃b,v=.ref b:=by
   generalize m.2.2.2.2[0]'(ht m J)=t at U;cases U<;>exact⟨_,rfl⟩
  exact⟨G _ _ Y,UY g hd ⟨b,List.mem_of_getElem? hv⟩ a2,L.mono G⟩
end ST
namespace K70
open PySem L2 TM TT ST K9 K11
theorem MN{ms:List MdT}{kb:List Str}{t:Tm}(h:JT (ms.map λm=>m.2.1) kb t):∃cs:List (Int×Int),TDr cs t/\∀c∈cs,∃(k j:Nat)(md:MdT),c=((k:Int),(j:Int))/\ms[k]?=some md/\kb[j]?=some md.2.1:=by
 obtain⟨cs,h1,h2⟩:=h;refine⟨cs,h2,λc J=>?_⟩;obtain⟨k,j,z,e,a,b⟩:=h1 c J;rw [List.getElem?_map]at a;cases G:ms[k]? with
 | none=>rw [G]at a;cases a
 | some md=>
  rw [G]at a;have:md.2.1=z:=by simpa using a
  exact⟨k,j,md,e,G,by rw [this];exact b⟩
def abv(T:Tree Str):Tree Str:=.node (Str.ofString "") 0 [T]
theorem Xs{ks hs:List KdT}(e:hs.map ZL=ks.map ZL){i:Nat}{k:KdT}(h:ks[i]?=some k):∃k',hs[i]?=some k'/\k'.2.1=k.2.1/\k'.2.2.2=k.2.2.2:=by
 have:=congrArg (λl:List (Str×List PNx)=>l[i]?) e;simp only [List.getElem?_map,h]at this;cases h2:hs[i]? with
 | none=>rw [h2]at this;cases this
 | some k'=>
  rw [h2]at this;have this:(k'.2.1,k'.2.2.2)=(k.2.1,k.2.2.2):=Option.some.inj this;exact⟨k',rfl,(Prod.mk.inj this).1,(Prod.mk.inj this).2⟩
theorem U2{ks hs:List KdT}(e:hs.map ZL=ks.map ZL){k:KdT}(h:k∈ks):∃k'∈hs,k'.2.1=k.2.1/\k'.2.2.2=k.2.2.2:=by
 obtain⟨i,hi,rfl⟩:=List.getElem_of_mem h;obtain⟨k',a,b,c⟩:=Xs e (24:);exact⟨k',List.mem_of_getElem? a,b,c⟩
theorem Vb{ms ns:List MdT}(e:ns.map MdT.md=ms.map MdT.md){i:Nat}{m:MdT}(h:ms[i]?=some m):∃m',ns[i]?=some m'/\m'.2.1=m.2.1/\m'.2.2.2.2=m.2.2.2.2:=by
 have:=congrArg (λl:List Md=>l[i]?) e;simp only [List.getElem?_map,h]at this;cases h2:ns[i]? with
 | none=>rw [h2]at this;cases this
 | some m'=>
  rw [h2]at this;have this:(m'.2.1,m'.2.2.2.2)=(m.2.1,m.2.2.2.2):=Option.some.inj this;exact⟨m',rfl,(Prod.mk.inj this).1,(Prod.mk.inj this).2⟩
theorem WB{ks hs:List KdT}(e:hs.map ZL=ks.map ZL):(hs.map λk=>k.2.1)=ks.map λk=>k.2.1:=by
 have:=congrArg (List.map Prod.fst) e;rw [List.map_map,List.map_map]at this;exact this
theorem J8{ms ns:List MdT}(e:ns.map MdT.md=ms.map MdT.md):(ns.map λm=>m.2.1)=ms.map λm=>m.2.1:=by
 have:=congrArg (List.map Prod.fst) e;rw [List.map_map,List.map_map]at this;exact this
theorem WoodOk.key{ks hs:List KdT}(e:hs.map ZL=ks.map ZL)(h:WoodOk ks):WoodOk hs:=by
 have G:hs.length=ks.length:=by have:=congrArg List.length e;simpa using this
 refine⟨by rw [WB e];exact h.nd,by rw [G];exact h.len,λk J=>?_⟩;obtain⟨k',a,_,b⟩:=U2 e.symm J;rw [<-b];exact h.rows k' a
theorem DWood.key{c:Int}{ks hs:List KdT}(e:hs.map ZL=ks.map ZL)(h:DWood c ks):DWood c hs:=by
 have J:hs.length=ks.length:=by have:=congrArg List.length e;simpa using this
 refine⟨WoodOk.key e h.ok,by rw [J];exact h.pos,by rw [J];exact h.three,λk G=>?_,λk G=>?_,λk G=>?_,λk G=>?_⟩<;>obtain⟨k',a,L,b⟩:=U2 e.symm G
 .rw [<-L];exact h.nm k' a
 .rw [<-b];exact h.few k' a
 .rw [<-b];exact h.bare k' a
 .rw [<-b,WB e];exact h.kin k' a
theorem DTurn.key{ks hs:List KdT}{st:Tm}{ms ns:List MdT}(ek:hs.map ZL=ks.map ZL)(em:ns.map MdT.md=ms.map MdT.md)(h:DTurn ks st ms):DTurn hs st ns:=by
 have J:ns.length=ms.length:=by have:=congrArg List.length em;simpa using this
 refine⟨by rw [J];exact h.pos,by rw [J];exact h.four,λm Y=>?_,λk Z=>?_⟩
 .obtain⟨i,hi,rfl⟩:=List.getElem_of_mem Y;obtain⟨m0,G,a2,L⟩:=Vb em.symm (24:);obtain⟨kd,b1,b2,b3,b4⟩:=(h.md m0 (List.mem_of_getElem? G)).ex;obtain⟨M,c1,c2,U⟩:=U2 ek b1;exact⟨M,c1,by rw [c2,b2,a2],by rw [<-L,U];exact b3,λj r t hr ht=>by rw [J8 em];exact b4 j r t (by rw [<-U];exact hr) (by rw [L];exact ht)⟩
 .obtain⟨k0,G,a2,_⟩:=Xs ek.symm Z;rw [J8 em,<-a2];exact h.st k0 G
section
variable{ks:List KdT}{ms:List MdT}{st:Tm}{c:Int}
theorem ME(hW:DWood c ks)(hD:DTurn ks st ms):∀(l:Nat)(T:Tree Str)(kind:Str),lv T<=l->OfK (QF ks) T kind->∀(k:Nat)(md:MdT),ms[k]?=some md->md.2.1=kind->∀n,4*l<=n->∃u,MM ks ms n (k:Int) T u/\GT (2*l+1) u
 | 0,T,_,h,_,_,_,_,_,_,_=>by rw [Q4]at h;lia
 | l+1,.node nm G bs,kind,h,Z,k,md,hk,ek,n,hn=>by
  obtain⟨U,rfl⟩: ∃U,n=U+1:=⟨n-1,by lia⟩;simp only [OfK]at Z;obtain⟨r,hr,aa,ab⟩:=Z;obtain⟨kd,b1,b2,b3,b4⟩:=(hD.md md (List.mem_of_getElem? hk)).ex;rw [<-ek,<-b2,ZZ hW.ok.nd b1]at hr;obtain⟨j,hj,rfl⟩:=List.getElem_of_mem hr;have er:=List.getElem?_eq_getElem hj;obtain⟨t,et⟩: ∃t,md.2.2.2.2[j]?=some t:=(26:);obtain⟨Y,ac⟩:=b4 j _ t er et;obtain⟨cs,ad,ae⟩:=MN Y;rw [Q4]at h;obtain⟨u,hu,hg⟩:=LM (ks:=ks) (ms:=ms) (M:=4*l) (L:=2*l+1) (3:) (T:=.node nm G bs) (cs:=cs) (λx hx=>by
   obtain⟨k',j',J,e,af,ag⟩:=ae x hx;obtain⟨b,hb,ah⟩:=ab.get ag;have:=Yg (List.mem_of_getElem? hb);have e2:lvs (Tree.bs (.node nm G bs))=lvs bs:=rfl;exact⟨k',j',b,e,hb,λn hn=>ME hW hD l b J.2.1 (3:) ah k' J af rfl n hn⟩) 3 t ac ad U (3:)
  refine⟨u,?_,hg.mono (3:)⟩;rw [MM];exact⟨md,kd,j,_,t,by lia,by rw [Int.toNat_natCast];exact hk,b1,b2,b3,er,aa,et,hu⟩
theorem LV(hW:DWood c ks)(hD:DTurn ks st ms){k0:KdT}(hk0:ks[0]?=some k0){l:Nat}{T:Tree Str}(hl:lv T<=l)(hO:OfK (QF ks) T k0.2.1){n:Nat}(hn:4*l+2<=n):∃u,MB ks ms n st (abv T) u/\GT (2*l+2) u:=by
 obtain⟨U,Y⟩:=hD.st k0 hk0;obtain⟨cs,Z,aa⟩:=MN U;obtain⟨u,hu,hg⟩:=LM (ks:=ks) (ms:=ms) (M:=4*l) (L:=2*l+1) (3:) (T:=abv T) (cs:=cs) (λx hx=>by
  obtain⟨k',j',J,e,ab,G⟩:=aa x hx;cases j' with
  | zero=>
   have G:k0.2.1=J.2.1:=by simpa using G
   exact⟨k',0,T,e,rfl,λn hn=>ME hW hD l T J.2.1 hl (by rw [<-G];exact hO) k' J ab rfl n hn⟩
  | succ j'=>cases G) 2 st Y Z n (by lia)
 exact⟨u,hu,hg.mono (3:)⟩
end
end K70
namespace K70
open PySem L2 TM TT ST K9 K11
def Uy(K:Fg)(n:Nat):Sp:=λvs H Q _=>∃(tu wd lm:Addr)(sv v:V)(ks:List KdT)(st:Tm)(ms:List MdT)(T u:Tree Str),vs=[.ref tu,v]/\TurnD K H tu wd lm sv ks st ms/\WoodOk ks/\TrV K H v T/\MB ks ms n st (abv T) u/\∀(v':V)(H':Hp),Same H H'->TrV K H' v' u->Q v' H'
def Sr:List G3.S:=[.ret (.call 0 [.v 0,.ix (.v 0) (.k (.int 1)),.tup [.k (.str ""),.k (.int 0),.tup [.v 1]]])]
def R6(K:Fg)(n:Nat):G3.En:=⟨K,[λ_ vs H Q=>XF K n vs H Q E0],[],[],[]⟩
def U8(K:Fg)(n:Nat):Sp:=λvs H Q _=>∃(v:V)(T:Tree Str),vs=[v]/\TrV K H v T/\lv T<=n/\∀(z:Int)(H':Hp),Same H H'->Q (.int z) H'
def To:List G3.S:=[.ret (.bin .Add (.k (.int 1)) (.call 0 [.comp 2 (.ix (.v 0) (.k (.int 2))) [] (.call 1 [.v 0])]))]
inductive SumL(K:Fg)(l:Addr)(H:Hp)(Q:VK):Prop where
 | s (ns:List Int) (h:SqL K H l (ns.map V.int)) (k:Q (.int ns.sum) H):SumL K l H Q
def O7(K:Fg)(vs:List V)(H:Hp)(Q:VK):Prop:=match vs with
 | [.ref l]=>SumL K l H Q
 | _=>False
theorem Le(X:Cx)(hc:X.calm=true):QV X (.builtin "sum") (O7 X.K):=by
 intro pins s σ H xs G Q I r h;unfold O7 at h;split at h
 .cases h with
  | s J h k=>exact JV hc pins s σ H _ G Q I r ⟨_,J,rfl,h,k⟩
 .exact h.elim
def Tv(K:Fg)(n:Nat):G3.En:=⟨K,[λ_ vs H Q=>O7 K vs H Q,λ_ vs H Q=>U8 K n vs H Q E0],[],[],[]⟩
section
variable{P:Program}{w:World}{K:Fg}{mg:Str->Option Value}{base:Heap}{f:Addr}{fd:FuncData}
theorem O2:FnScope ["_law_turning_here","_law_tree_here"] ["_law_turning_here","_law_tree_here"] (defScope LL):=(1:)
theorem OE{n:Nat}(F:Fun K "_law_outcome" "_law_outcome" LL f fd)(G:Gm mg)(RB:Fn P w K mg base (n+3) "_law_made_by" ["_law_turning_here","_law_term_here","_law_tree_here"] (XF K n)):FnOk P w K mg base CX0 (n+4) f fd ["_law_turning_here","_law_tree_here"] (Uy K n):=by
 refine G3.Fun.okC F O2 (R6 K n) Sr (λX c=>⟨.cons (c.fn RB (5:)) .nil,.nil,.nil⟩) (7:) (λH vs Q E h=>?_) G.rng
 .obtain⟨U,wd,Y,L,v,ks,st,ms,T,u,rfl,_⟩:=h
  rfl
 obtain⟨U,wd,Y,L,v,ks,st,ms,T,u,rfl,M,Z,hv,hM,q⟩:=h;refine .t _ _ M.tu rfl ⟨λp1 X1 k1 d1 _=>⟨λp2 X2 k2 d2 _=>?_⟩⟩;have J:=k1.trans k2;exact⟨U,wd,Y,L,ks,st,ms,L,.ref p2,st,abv T,u,rfl,M.same J,Z,tmS J M.s,.mk d2 (k2.seqT d1) (.cons (trS J hv) .nil) (by show 1<=1000;decide),hM,λv' H' g h=>q v' H' (J.trans g) h⟩
theorem SI:FnScope ["_law_tree_here"] ["_law_tree_here"] (defScope MZ):=(1:)
theorem Pa{n:Nat}(F:Fun K "_law_names_in" "_law_names_in" MZ f fd)(G:Gm mg)(R:Fn P w K mg base (n+1) "_law_names_in" ["_law_tree_here"] (U8 K n)):FnOk P w K mg base CX0 (n+2) f fd ["_law_tree_here"] (U8 K (n+1)):=by
 refine G3.Fun.okC F SI (Tv K n) To (λX c=>⟨.cons (SD c Le G.sum PyProof.Rows.boot_sum) (.cons (c.fn R (5:)) .nil),.nil,.nil⟩) (7:) (λH vs Q E h=>?_) G.rng
 .obtain⟨v,T,rfl,_⟩:=h
  rfl
 obtain⟨v,T,rfl,hv,hl,q⟩:=h;obtain⟨a,b,vs,rfl,h1,h2,L,h4⟩:=ZQ hv;have aa:=L.length;rw [Q4]at hl;refine .t _ _ h1 rfl<| .t vs h2<| .s (λi ys H'=>∃J:List Int,ys=J.map V.int) (λH1 g=>⟨[],rfl⟩) (λacc i ys l H1 H2 h _ _ _ k=>h) (3:) (λi ys H1 hi _ g ⟨J,e⟩=>?_) λp ys H1 g hp ⟨J,e⟩=>?_
 .obtain⟨c,M⟩: ∃c,T.bs[i]?=some c:=(26:);obtain⟨U,Y,Z⟩:=L.get M;have ex:(vs[i]?).getD .non=U:=by rw [Y];rfl
  rw [ex];have:=Yg (List.mem_of_getElem? M);exact⟨U,c,rfl,trS g Z,by lia,λz H2 g2=>⟨g2,J++[z],by rw [e,List.map_append];rfl⟩⟩
 .exact .s J (SqL.of (by rw [<-e];exact hp)) (q _ H1 g)
theorem Gz(F:Fun K "_law_names_in" "_law_names_in" MZ f fd)(G:Gm mg)(hb:Binds K fd ["_law_tree_here"] [])(hm:mg "_law_names_in"=some (.ref f)):∀n:Nat,FnOk P w K mg base CX0 (n+1) f fd ["_law_tree_here"] (U8 K n)
 | 0=>⟨λvs H Q E h=>by obtain⟨v,T,rfl,_⟩:=h;rfl,λA outer s H J M vs Q E _ _ _ _ h=>by obtain⟨v,T,_,_,L,_⟩:=h;rw [Q4]at L;lia⟩
 | n+1=>Pa F G ⟨f,fd,Gz F G hb hm n,hb,F.kp,hm⟩
end
end K70
namespace L2
open PySem PySem.Spec PyProof.Rows
section
variable{X:Cx}
theorem J6:QV X (.builtin "isinstance") (λxs H Q=>∃(a:Addr)(ys:List V),(xs=[.ref a,.ty "list"]/\SqL X.K H a ys\/xs=[.ref a,.ty "tuple"]/\SqT X.K H a ys)/\Q (.bl true) H):=by
 intro pins s σ H xs M Q I r h;obtain⟨a,ys,h,q⟩:=h;rcases h with⟨rfl,G⟩ | ⟨rfl,G⟩
 .obtain⟨u,c,rfl,J,L⟩:=V0 r;cases (show u=Value.ref a from J);cases (show c=Value.type "list" from L);obtain⟨its,_,pl,_⟩:=I.list G;obtain⟨o,h1,h2,_⟩:=pl.isList;exact PySem.W.kia_one (b:=true) PySem.W.kitx_list I.kIn ⟨o,h1,h2⟩ rfl (46:) λtk=>⟨.bl true,H,I.tok tk,rfl,q⟩
 .obtain⟨u,c,rfl,J,L⟩:=V0 r;cases (show u=Value.ref a from J);cases (show c=Value.type "tuple" from L);obtain⟨its,_,pl,_⟩:=I.tuple G;obtain⟨o,h1,h2,_⟩:=pl;exact PySem.W.kia_one (b:=true) PySem.W.kitx_tuple I.kIn ⟨o,h1,h2⟩ rfl (46:) λtk=>⟨.bl true,H,I.tok tk,rfl,q⟩
end
end L2
namespace K70
open PySem L2 TM TT ST K9 K11
def YC(K:Fg)(n:Nat):Sp:=λvs H Q _=>∃(v:V)(T:Tree Str),vs=[v]/\TrV K H v T/\lv T<=n/\∀H',Same H H'->Q (.bl true) H'
def Nl(K:Fg)(n:Nat):Sp:=λvs H Q _=>∃(a l:Addr)(kind:Str)(ps:List (Addr×Ent)),vs=[.ref a]/\SqT K H a [.str kind,.ref l]/\SqL K H l (39:)/\(∀p∈ps,SqT K H p.1 [.int p.2.1,p.2.2]/\∃u,TrV K H p.2.2 u/\lv u<=n)/\∀H',Same H H'->Q (.bl true) H'
theorem Wx:∀n:Nat,inV (.bl false) (List.replicate n (V.bl true))=false/\(List.replicate n (V.bl true)).all YI=true
 | 0=>⟨rfl,rfl⟩
 | n+1=>by
  obtain⟨a,b⟩:=Wx n;rw [List.replicate_succ];have e:eqV (V.bl true) (V.bl false)=false:=rfl;exact⟨by simp [inV,e],by simpa [YI]using b⟩
section
variable{P:Program}{w:World}{K:Fg}{mg:Str->Option Value}{base:Heap}{f:Addr}{fd:FuncData}
theorem NQ:FnScope ["_law_found"] ["_law_found"] (defScope JB):=(1:)
theorem Mc{n:Nat}(F:Fun K "_law_plain_tree" "_law_plain_tree" JB f fd)(G:Gm mg)(RH:Fn P w K mg base 1 "_law_whole" ["_law_found"] Uc)(R:Fn P w K mg base (n+1) "_law_plain_tree" ["_law_found"] (YC K n)):FnOk P w K mg base CX0 (n+2) f fd ["_law_found"] (YC K (n+1)):=by
 refine F.ok NQ (7:) (λad A outer s H vs Q E M h=>?_)
 .obtain⟨v,t,rfl,_⟩:=h
  rfl
 obtain⟨v,T,rfl,ht,U,q⟩:=h;refine⟨_,(Qf (QC (PW.pt (pw_or (Zh (QS (Qn ZE rfl G.isi PyProof.Rows.boot_isinstance (Qa (pv 0) (Qa (Zt (v:=.ty "tuple") rfl G.tup PyProof.Rows.boot_tuple rfl) Qc))))) (pw_or (Qr Ye (Qn Qm rfl G.len PySem.boot_len (Qa (pv 0) Qc)) Qd (Qu _)) (pw_or1 (Zh (QS (Qn ZR rfl G.isi PyProof.Rows.boot_isinstance (Qa (25:) (Qa (Zt (v:=.ty "str") rfl G.str PyProof.Rows.boot_str rfl) Qc))))))))) (Qg (Ql ZN)) Qq)
  (Qf (QC (PW.pt (pw_or (Zh (QS (Qp RH M (Qa (25:) Qc) (Nat.le_add_left 1 n)))) (pw_or1 (Zh (QS (Qn ZE rfl G.isi PyProof.Rows.boot_isinstance (Qa (25:) (Qa (Zt (v:=.ty "tuple") rfl G.tup PyProof.Rows.boot_tuple rfl) Qc)))))))) (Qg (Ql ZN)) Qq)
  (Qg (Ql (ZH Wb ZN (QK (CompG.many (xs:=["_law_branch"]) (caps:=[]) (cap:=[]) (cs:=[]) rfl rfl (0:) (0:) (0:) (0:) (0:) (0:) rfl rfl rfl) rfl (Yl (25:)) (Z0 (CompG.many (xs:=["_law_branch"]) (caps:=[]) (cap:=[]) (cs:=[]) rfl rfl (0:) (0:) (0:) (0:) (0:) (0:) rfl rfl rfl)) (λ_ _ _ _=>QX) (λ_ _ _ _=>Qp R M (Qa (pv 0) Qc) (5:))) rfl))))),?_⟩
 obtain⟨a,b,bs,rfl,h1,h2,Y,h4⟩:=ZQ ht;have ac:=Y.length;rw [Q4]at U;refine⟨_,rfl,a,_,"tuple",true,rfl,h1,rfl,_,rfl,Zc ⟨_,rfl,a,_,rfl,.inr h1,rfl,_,rfl,Yh rfl ⟨_,rfl,a,_,0,_,rfl,rfl,h1,rfl,_,"str",_,true,rfl,.str _,rfl,_,rfl,Zc ?_⟩⟩⟩;refine⟨_,rfl,a,_,1,_,rfl,rfl,h1,rfl,mrk T,rfl,_,rfl,Zc ⟨_,rfl,a,_,2,_,rfl,rfl,h1,rfl,b,_,"tuple",true,rfl,h2,rfl,_,rfl,Zc ?_⟩⟩;refine⟨_,rfl,a,_,2,_,rfl,rfl,h1,rfl,b,rfl,⟨_,h2⟩,λacc J=>?_⟩;refine Yn (K:=K) (xs:=bs) (cs:=[]) (tt:=λ_ H Q=>Q true H) (te:=J9 (YC K n) [] E0 (Zm (Zo 0) UQ)) (λi ys H'=>H' acc=some (.lst ys)/\Same H H'/\ys=List.replicate i (V.bl true)) ⟨Qb,Qe J _,rfl⟩ ?_ ?_ ?_
 .rintro i ys H' _ ⟨_,g,_⟩;exact g.seqT h2
 .rintro i x ys H' hi Z ⟨L,g,rfl⟩;obtain⟨c,hc⟩: ∃c,T.bs[i]?=some c:=(26:);obtain⟨cv,aa,ab⟩:=Y.get hc;rw [aa]at Z;obtain rfl:cv=x:=by simpa using Z
  have:=Yg (List.mem_of_getElem? hc);refine QU ⟨_,rfl,cv,c,rfl,trS g ab,by lia,λH4 g4=>?_⟩;refine Qv hi (g4 _ _ L) (by rw [List.length_replicate];lia) ⟨Qb,λb u e=>?_,by rw [List.replicate_succ']⟩;rw [Qh (Qi e J)];exact g4 _ _ (g _ _ e)
 rintro ys H2 ⟨L,g,rfl⟩;obtain⟨n1,n2⟩:=Wx bs.length;refine⟨acc,_,rfl,.inl (SqL.of L),rfl,n2,?_⟩;show Q (.bl (!inV (.bl false) (List.replicate bs.length (V.bl true)))) H2;rw [n1];exact q H2 g
theorem JS(F:Fun K "_law_plain_tree" "_law_plain_tree" JB f fd)(G:Gm mg)(RH:Fn P w K mg base 1 "_law_whole" ["_law_found"] Uc)(hb:Binds K fd ["_law_found"] [])(hm:mg "_law_plain_tree"=some (.ref f)):∀n:Nat,FnOk P w K mg base CX0 (n+1) f fd ["_law_found"] (YC K n)
 | 0=>⟨λvs H Q E h=>by obtain⟨v,T,rfl,_⟩:=h;rfl,λA outer s H J M vs Q E _ _ _ _ h=>by obtain⟨v,T,_,_,L,_⟩:=h;rw [Q4]at L;lia⟩
 | n+1=>Mc F G RH ⟨f,fd,JS F G RH hb hm n,hb,F.kp,hm⟩
theorem OR:FnScope ["_law_found","_law_pair"] ["_law_found"] (defScope Rf):=(1:)
theorem P3{n:Nat}(F:Fun K "_law_is_want" "_law_is_want" Rf f fd)(G:Gm mg)(RH:Fn P w K mg base 1 "_law_whole" ["_law_found"] Uc)(RP:Fn P w K mg base (n+1) "_law_plain_tree" ["_law_found"] (YC K n)):FnOk P w K mg base CX0 (n+2) f fd ["_law_found"] (Nl K n):=by
 refine F.ok OR (7:) (λaa A outer s H vs Q E U h=>?_)
 .obtain⟨a,l,kind,ps,rfl,_⟩:=h
  rfl
 obtain⟨a,l,kind,ps,rfl,h1,h2,h3,q⟩:=h;refine⟨_,(Qf (QC (PW.pt (pw_or (Zh (QS (Qn ZE rfl G.isi PyProof.Rows.boot_isinstance (Qa (pv 0) (Qa (Zt (v:=.ty "tuple") rfl G.tup PyProof.Rows.boot_tuple rfl) Qc))))) (pw_or (Qr Ye (Qn Qm rfl G.len PySem.boot_len (Qa (pv 0) Qc)) Qd (Qu _)) (pw_or1 (Zh (QS (Qn ZR rfl G.isi PyProof.Rows.boot_isinstance (Qa (25:) (Qa (Zt (v:=.ty "str") rfl G.str PyProof.Rows.boot_str rfl) Qc))))))))) (Qg (Ql ZN)) Qq)
  (Qf (QC (Zh (QS (Qn J6 rfl G.isi PyProof.Rows.boot_isinstance (Qa (25:) (Qa (Zt (v:=.ty "list") rfl G.lst PyProof.Rows.boot_list rfl) Qc))))) (Qg (Ql ZN)) Qq)
  (Qf (QL PassesOwn.never rfl (QG (25:)) (Qt (i:=1) OR.nd rfl (9:)) (Qf (QC (PW.pt (pw_or (Zh (QS (Qn ZE rfl G.isi PyProof.Rows.boot_isinstance (Qa (pv 1) (Qa (Zt (v:=.ty "tuple") rfl G.tup PyProof.Rows.boot_tuple rfl) Qc))))) (pw_or (Qr Ye (Qn Qm rfl G.len PySem.boot_len (Qa (pv 1) Qc)) Qd (Qu _)) (pw_or1 (Zh (QS (Qp RH U (Qa (27:) Qc) (Nat.le_add_left 1 n)))))))) (Qg (Ql ZN)) Qq)
  (Qg (QC (Zh (QS (Qp RP U (Qa (27:) Qc) (5:)))) (Qg (Ql ZN)) Qq))))
  (Qg (Ql ZN))))),?_⟩
 refine⟨_,rfl,a,_,"tuple",true,rfl,h1,rfl,_,rfl,Zc ⟨_,rfl,a,_,rfl,.inr h1,rfl,_,rfl,Yh rfl ⟨_,rfl,a,_,0,_,rfl,rfl,h1,rfl,_,"str",_,true,rfl,.str _,rfl,_,rfl,Zc ?_⟩⟩⟩;refine⟨_,rfl,a,_,1,_,rfl,rfl,h1,rfl,l,_,.inl ⟨rfl,h2⟩,true,rfl,Zc ?_⟩;refine⟨_,rfl,a,_,1,_,rfl,rfl,h1,rfl,l,rfl,⟨_,h2⟩,?_⟩;refine Zn (K:=K) (xs:=ps.map λp=>V.ref p.1) (λi σ H'=>∃L:Option V,σ=[some (.ref a),L]/\Same H H') ⟨none,rfl,λ_ _ e=>e⟩ ?_ ?_ ?_
 .rintro i σ H' _ ⟨L,_,g⟩;exact g.seq h2
 .rintro i x σ H' M ⟨L,rfl,g⟩;have hi:=(List.getElem?_eq_some_iff.mp M).1;rw [List.length_map]at hi;rw [List.getElem?_map,List.getElem?_eq_getElem hi]at M;obtain⟨hp,u,Y,Z⟩:=h3 ps[i] (List.getElem_mem hi);generalize ps[i]=p at M hp Y;cases M;have J:=g.seqT hp;refine⟨_,rfl,p.1,_,"tuple",true,rfl,J,rfl,_,rfl,Zc ⟨_,rfl,p.1,_,rfl,.inr J,rfl,_,rfl,Yh rfl ⟨_,rfl,p.1,_,0,_,rfl,rfl,J,rfl,p.2.1,rfl,_,rfl,Zc ?_⟩⟩⟩;exact⟨_,rfl,p.1,_,1,_,rfl,rfl,J,rfl,p.2.2,u,rfl,trS g Y,Z,λH4 g4=>⟨_,rfl,Zc ⟨_,rfl,g.trans g4⟩⟩⟩
 .rintro σ H' ⟨L,rfl,g⟩;exact q H' g
end
end K70
namespace K70
open PySem L2 TM TT ST K9 K11
def Yy(g:Tm->Tree Str->Option Int):List Tm->List (40:)->Option Int
 | t::ts,u::us=>match g t u with
  | some x=>some x
  | none=>Yy g ts us
 | _,_=>none
def Z6:Nat->Tm->Tree Str->Option Int
 | 0,_,_=>none
 | n+1,t,u=>match lab t with
  | .call _ _=>none
  | .put _ k ad=>if t.bs.length=u.bs.length then(if k=true then some (mrk u-ad)else Yy (Z6 n) t.bs u.bs)else none
def YV(K:Fg)(n:Nat):Sp:=λvs H Q _=>∃(tv uv:V)(t:Tm)(u:Tree Str),vs=[tv,uv]/\TmV K H tv t/\TrV K H uv u/\lv t<=n/\∀H',Same H H'->Q (mV (Z6 n t u)) H'
section
variable{P:Program}{w:World}{K:Fg}{mg:Str->Option Value}{base:Heap}{f:Addr}{fd:FuncData}
theorem Xm:FnScope ["_law_term_here","_law_tree_here","_law_part","_law_branch","_law_need_here"] ["_law_term_here","_law_tree_here"] (defScope Wu):=(1:)
theorem N5{n:Nat}(F:Fun K "_law_need" "_law_need" Wu f fd)(G:Gm mg)(R:Fn P w K mg base n "_law_need" ["_law_term_here","_law_tree_here"] (YV K n)):FnOk P w K mg base CX0 (n+1) f fd ["_law_term_here","_law_tree_here"] (YV K (n+1)):=by
 refine F.ok Xm (7:) (λap A outer s H vs Q E hr h=>?_)
 .obtain⟨tv,uv,t,u,rfl,_⟩:=h
  rfl
 obtain⟨tv,uv,t,u,rfl,hv,hu,ad,q⟩:=h;refine⟨_,(Qf (QC (PW.pt (pw_or (Qr Za (25:) Zr (Qu _)) (pw_or1 (Qr Ye (Qn Qm rfl G.len PySem.boot_len (Qa (25:) Qc)) (Qn Qm rfl G.len PySem.boot_len (Qa (27:) Qc)) (Qu _))))) (Qg (Ql Zq)) Qq)
  (Qf (QC (QS (25:)) (Qg (Ql (Qs YW (27:) (25:)))) Qq)
  (Qf (QL PassesOwn.never rfl (XO rfl G.zip (Qa (25:) (Qa (27:) Qc))) (Zs rfl (Qy (Qt (i:=2) Xm.nd rfl (9:)) (Qy (Qt (i:=3) Xm.nd rfl (9:)) Zg))) (Qf (Qo (i:=4) Xm.nd rfl (9:) (Qp R hr (Qa (pv 2) (Qa (pv 3) Qc)) (5:)))
  (Qg (QC (YQ (V2 (pv 4))) (Qg (Ql (pv 4))) Qq))))
  (Qg (Ql Zq))))),?_⟩
 have ae:¬V.str PUT=V.str Yi:=by decide+kernel
 rcases YX hv with⟨ta,m,br,rfl,rfl,h1⟩ | ⟨ta,tb,M,tn,tk,ab,rfl,af,h1,h2,h3,h4⟩
 .exact⟨_,rfl,ta,_,0,_,rfl,rfl,h1,rfl,rfl,_,rfl,JJ rfl (QU (q H (Same.refl _)))⟩
 have ag:lab t=.put tn tk ab:=by rw [af];rfl
 obtain⟨un,um,L⟩:=u;have ah:Z6 (n+1) t (.node un um L)=if t.bs.length=L.length then(if tk=true then some (um-ab)else Yy (Z6 n) t.bs L)else none:=by
  rw [Z6,ag]
  rfl
 rw [ah]at q;obtain⟨ua,ub,Y,rfl,r1,r2,r3,r4⟩:=ZQ hu;have aa:=h3.length;have Z:Y.length=L.length:=r3.length;refine⟨_,rfl,ta,_,0,_,rfl,rfl,h1,rfl,rfl,_,rfl,JO ae ?_⟩;refine(54:)
 by_cases U:t.bs.length=L.length
 case neg=>
  rw [if_neg U]at q;exact UI (λy=>U (by
   have:=V.int.inj y;lia)) (q H (Same.refl _))
 rw [if_pos U]at q;refine Yh (by rw [aa,Z];exact congrArg (λn:Nat=>V.int (n:Int)) U) ?_;refine⟨_,rfl,ta,_,2,_,rfl,rfl,h1,rfl,tk,rfl,?_⟩;cases tk with
 | true=>exact QU ⟨_,rfl,ua,_,1,_,rfl,rfl,r1,rfl,_,rfl,ta,_,3,_,rfl,rfl,h1,rfl,_,_,rfl,rfl,q H (Same.refl _)⟩
 | false=>
 rw [if_neg Bool.false_ne_true]at q;refine Zc ?_;rw [Q4]at ad;have ai:M.length=Y.length:=by rw [aa,Z];exact U
 refine⟨_,rfl,ta,_,4,_,rfl,rfl,h1,rfl,_,rfl,ua,_,2,_,rfl,rfl,r1,rfl,tb,ub,M,Y,rfl,h2,r2,?_⟩;refine Wr (K:=K) (xs:=M) (ys:=Y) ai (λi σ H'=>∃c2 c3 c4:Option V,σ=[some (.ref ta),some (.ref ua),c2,c3,c4]/\Same H H'/\Yy (Z6 n) t.bs L=Yy (Z6 n) (t.bs.drop i) (L.drop i)) ⟨none,none,none,rfl,Same.refl _,rfl⟩ ?_ ?_ ?_
 .rintro i σ H' _ ⟨_,_,_,_,g,_⟩;exact⟨g.seqT h2,g.seqT r2⟩
 .rintro i u' v' p σ H' ac aj hp ⟨c2,c3,c4,rfl,g,J⟩;have gp:=Qe hp (.tup [u',v']);have hi:=(List.getElem?_eq_some_iff.mp ac).1;obtain⟨c,hc⟩: ∃c,t.bs[i]?=some c:=(26:);obtain⟨y,hy⟩: ∃y,L[i]?=some y:=(26:);obtain⟨cv,ak,al⟩:=h3.get hc;obtain rfl:cv=u':=Option.some.inj (ak.symm.trans ac);obtain⟨zv,am,an⟩:=r3.get hy;obtain rfl:zv=v':=Option.some.inj (am.symm.trans aj);have gg:=g.trans gp;have ao:=List.mem_of_getElem? hc;have:=Yg ao;have e1:t.bs.drop i=c::t.bs.drop (i+1):=by rw [List.drop_eq_getElem_cons (List.getElem?_eq_some_iff.mp hc).1,(List.getElem?_eq_some_iff.mp hc).2]
  have e2:L.drop i=y::L.drop (i+1):=by rw [List.drop_eq_getElem_cons (50:).1,(50:).2]
  rw [e1,e2]at J;refine⟨p,_,rfl,SqT.of Qb,rfl,_,_,rfl,_,_,rfl,rfl,?_⟩;refine⟨_,rfl,_,rfl,cv,zv,c,y,rfl,tmS gg al,trS gg an,by lia,λH3 g3=>?_⟩;have J:Yy (Z6 n) t.bs L=match Z6 n c y with
   | some x=>some x
   | none=>Yy (Z6 n) (t.bs.drop (i+1)) (L.drop (i+1)):=J
  refine⟨_,rfl,_,rfl,?_⟩;cases hx:Z6 n c y with
  | none=>
   rw [hx]at J;exact Yh rfl ⟨_,_,_,rfl,gg.trans g3,J⟩
  | some x=>
   rw [hx]at J;rw [J]at q;exact UI (λy=>by cases y) ⟨_,rfl,q H3 (gg.trans g3)⟩
 .rintro σ H3 ⟨c2,c3,c4,rfl,g,J⟩;have:Yy (Z6 n) (t.bs.drop M.length) (L.drop M.length)=none:=by rw [List.drop_of_length_le (3:)];rfl
  rw [this]at J;rw [J]at q;exact q H3 g
theorem GS{k:Nat}:FnOk P w K mg base CX0 k f fd ["_law_term_here","_law_tree_here"] (YV K 0):=by
 have G:∀vs H Q E,¬YV K 0 vs H Q E:=λvs H Q E h=>by
  obtain⟨tv,M,t,u,_,_,_,J,_⟩:=h;rw [Q4]at J;lia
 exact(58:)
theorem Wz(F:Fun K "_law_need" "_law_need" Wu f fd)(G:Gm mg)(hb:Binds K fd ["_law_term_here","_law_tree_here"] [])(hm:mg "_law_need"=some (.ref f)):∀n:Nat,FnOk P w K mg base CX0 n f fd ["_law_term_here","_law_tree_here"] (YV K n)
 | 0=>GS
 | n+1=>N5 F G ⟨f,fd,Wz F G hb hm n,hb,F.kp,hm⟩
end
end K70
namespace K70
open PySem L2 TM TT ST K9 K11
abbrev Cl:=Int×Int×Tree Str
def Q5(g:Tm->Tree Str->Option (List Cl)):List Tm->List (40:)->List Cl->Option (List Cl)
 | t::ts,u::us,acc=>match g t u with
  | some x=>Q5 g ts us (acc++x)
  | none=>none
 | _,_,acc=>some acc
def QH(mk:Int):Nat->Tm->Tree Str->Option (List Cl)
 | 0,_,_=>none
 | n+1,t,u=>match lab t with
  | .call m b=>some [(m,b,u)]
  | .put nm k ad=>if nm=nam u/\ad+mk*(if k=true then 1 else 0)=mrk u/\t.bs.length=u.bs.length then Q5 (QH mk n) t.bs u.bs []else none
structure ClAt(K:Fg)(H:Hp)(ps:List (Addr×V))(cs:List Cl):Prop where
 n:ps.length=cs.length
 v:∀(k:Nat) p c,ps[k]?=some p->cs[k]?=some c->SqT K H p.1 [.int c.1,.int c.2.1,p.2]/\TrV K H p.2 c.2.2
theorem ClAt.nil{K:Fg}{H:Hp}:ClAt K H [] []:=⟨rfl,λk p c a=>(nomatch a)⟩
theorem ClAt.mono{K:Fg}{H H':Hp}{ps:List (Addr×V)}{cs:List Cl}(k:∀a xs,SqT K H a xs->SqT K H' a xs)(h:ClAt K H ps cs):ClAt K H' ps cs:=⟨h.n,λi p c a b=>⟨k _ _ (h.v i p c a b).1,(h.v i p c a b).2.mono k⟩⟩
theorem ClAt.append{K:Fg}{H:Hp}{ps qs:List (Addr×V)}{cs ds:List Cl}(h:ClAt K H ps cs)(h2:ClAt K H qs ds):ClAt K H (ps++qs) (cs++ds):=by
 refine⟨by rw [List.length_append,List.length_append,h.n,h2.n],λk p c a b=>?_⟩;have:=h.n
 by_cases G:k<ps.length
 .rw [List.getElem?_append_left G]at a;rw [List.getElem?_append_left (3:)]at b;exact h.v k p c a b
 .rw [List.getElem?_append_right (3:)]at a;rw [List.getElem?_append_right (3:),<-h.n]at b;exact h2.v _ p c a b
def ZM(K:Fg)(n:Nat):Sp:=λvs H Q _=>∃(tv uv:V)(t:Tm)(u:Tree Str)(mk:Int)(cs:List (Int×Int)),vs=[tv,uv,.int mk]/\TmV K H tv t/\TrV K H uv u/\lv t<=n/\TDr cs t/\n<=5/\
 (QH mk n t u=none->∀H',Same H H'->Q .non H')/\∀x,QH mk n t u=some x->∀(l:Addr)(ps:List (Addr×V))(H':Hp),Same H H'->H' l=some (.lst (39:))->H l=none->ClAt K H' ps x->x.length<=3^n->Q (.ref l) H'
section
variable{P:Program}{w:World}{K:Fg}{mg:Str->Option Value}{base:Heap}{f:Addr}{fd:FuncData}
theorem Z1:FnScope ["_law_term_here","_law_tree_here","_law_mark_here","_law_due","_law_part","_law_branch","_law_inner"] ["_law_term_here","_law_tree_here","_law_mark_here"] (defScope YZ):=(1:)
theorem Ln{n:Nat}(F:Fun K "_law_stands" "_law_stands" YZ f fd)(G:Gm mg)(R:Fn P w K mg base n "_law_stands" ["_law_term_here","_law_tree_here","_law_mark_here"] (ZM K n)):FnOk P w K mg base CX0 (n+1) f fd ["_law_term_here","_law_tree_here","_law_mark_here"] (ZM K (n+1)):=by
 refine F.ok Z1 (7:) (λa0 A outer s H vs Q E hr h=>?_)
 .obtain⟨tv,uv,t,u,mk,cs,rfl,_⟩:=h
  rfl
 obtain⟨tv,uv,t,u,mk,cs,rfl,hv,hu,al,aa,a1,qn,q⟩:=h;refine⟨_,(Qf (QC (Qr Za (25:) Zr (Qu _)) (Qg (Ql (QY (Qa ((QD (Qa (25:) (Qa (25:) (Qa (pv 1) Qc))))) Qc)))) Qq)
  (Qf (QC (PW.pt (pw_or (Qr Ye (25:) (27:) (Qu _)) (pw_or (Qr Ye (Qs Q6 (25:) (Qs Z8 (pv 2) (QR Uq rfl G.int PyProof.Rows.boot_int (Qa (25:) Qc)))) (27:) (Qu _)) (pw_or1 (Qr Ye (Qn Qm rfl G.len PySem.boot_len (Qa (25:) Qc)) (Qn Qm rfl G.len PySem.boot_len (Qa (27:) Qc)) (Qu _)))))) (Qg (Ql Zq)) Qq)
  (Qf (Qo (i:=3) Z1.nd rfl (9:) (QY Qc))
  (Qf (QL PassesOwn.never rfl (XO rfl G.zip (Qa (25:) (Qa (27:) Qc))) (Zs rfl (Qy (Qt (i:=4) Z1.nd rfl (9:)) (Qy (Qt (i:=5) Z1.nd rfl (9:)) Zg))) (Qf (Qo (i:=6) Z1.nd rfl (9:) (Qp R hr (Qa (pv 4) (Qa (pv 5) (Qa (pv 2) Qc))) (5:)))
  (Qf (QC (YQ (Jq (pv 6))) (Qg (Ql Zq)) Qq)
  (Qg (Qo (i:=3) Z1.nd rfl (9:) (Qs Ob (pv 3) (pv 6)))))))
  (Qg (Ql (pv 3))))))),?_⟩
 have am:¬V.str PUT=V.str Yi:=by decide+kernel
 rcases YX hv with⟨ta,m,br,rfl,rfl,h1⟩ | ⟨ta,tb,M,tn,tk,ab,rfl,ad,h1,h2,h3,h4⟩
 .refine⟨_,rfl,ta,_,0,_,rfl,rfl,h1,rfl,rfl,_,rfl,JJ rfl ?_⟩;refine⟨_,rfl,ta,_,1,_,rfl,rfl,h1,rfl,_,rfl,ta,_,2,_,rfl,rfl,h1,rfl,_,rfl,(by show 3<=sizeLine;decide),λpt an=>⟨(by show 1<=sizeLine;decide),λpl ae=>?_⟩⟩;have g1:=Qe an (.tup [.int m,.int br,uv]);have g2:=Qe ae (.lst [.ref pt]);refine q [(m,br,u)] rfl pl [(pt,uv)] _ (g1.trans g2) Qb (g1.back ae) ⟨rfl,λk p c a b=>?_⟩ (by show 1<=_;exact Nat.pos_of_ne_zero (22:));cases k with
  | zero=>
   cases a;cases b;exact⟨g2.seqT (SqT.of Qb),trS (g1.trans g2) hu⟩
  | succ k=>cases a
 have ao:lab t=.put tn tk ab:=by rw [ad];rfl
 obtain⟨un,um,L⟩:=u;have ap:QH mk (n+1) t (.node un um L)=if tn=un/\ab+mk*(if tk=true then 1 else 0)=um/\t.bs.length=L.length then Q5 (QH mk n) t.bs L []else none:=by
  rw [QH,ao]
  rfl
 rw [ap]at q qn;obtain⟨ua,ub,Y,rfl,r1,r2,r3,r4⟩:=ZQ hu;have ac:=h3.length;have Z:Y.length=L.length:=r3.length;refine⟨_,rfl,ta,_,0,_,rfl,rfl,h1,rfl,rfl,_,rfl,JO am ?_⟩;refine⟨_,rfl,ta,_,1,_,rfl,rfl,h1,rfl,_,rfl,ua,_,0,_,rfl,rfl,r1,rfl,rfl,_,rfl,?_⟩
 by_cases hn:tn=un
 case neg=>exact UI (λy=>hn (V.str.inj y)) (QU (qn (if_neg λy=>hn y.1) H (Same.refl _)))
 refine Yh (by rw [hn];rfl) ?_;refine⟨_,rfl,ta,_,3,_,rfl,rfl,h1,rfl,_,rfl,_,rfl,ta,_,2,_,rfl,rfl,h1,rfl,.inr ⟨tk,rfl,_,_,rfl,rfl,.inr (by cases tk<;>exact(37:)),_,_,rfl,rfl,_,rfl,ua,_,1,_,rfl,rfl,r1,rfl,rfl,_,rfl,?_⟩⟩
 by_cases hm:ab+mk*(if tk=true then 1 else 0)=um
 case neg=>exact UI (λy=>hm (V.int.inj y)) (QU (qn (if_neg λy=>hm y.2.1) H (Same.refl _)))
 refine Yh (congrArg V.int hm) ?_;refine(54:)
 by_cases U:t.bs.length=L.length
 case neg=>
  exact UI (λy=>U (by
   have:=V.int.inj y;lia)) (qn (if_neg λy=>U y.2.2) H (Same.refl _))
 rw [if_pos ⟨hn,hm,U⟩]at q qn;refine Yh (by rw [ac,Z];exact congrArg (λn:Nat=>V.int (n:Int)) U) ?_;rw [ad,TDr]at aa;have a3:t.bs.length<=3:=aa.2.1;have ak:∀p∈t.bs,TDr cs p:=λp hp=>(Ze cs t.bs).mp aa.2.2 p hp;rw [Q4]at al;have aq:M.length=Y.length:=by rw [ac,Z];exact U
 have a4:0<3^n:=Nat.pos_of_ne_zero (22:);have a5:3^n<=243:=Nat.le_trans (Nat.pow_le_pow_right (12:) (show n<=5 by lia)) (12:);refine⟨(21:),λl0 af=>?_⟩;have g0:=Qe af (.lst []);refine⟨_,rfl,ta,_,4,_,rfl,rfl,g0.seqT h1,rfl,_,rfl,ua,_,2,_,rfl,rfl,g0.seqT r1,rfl,tb,ub,M,Y,rfl,g0.seqT h2,g0.seqT r2,?_⟩;refine Wr (K:=K) (xs:=M) (ys:=Y) aq (λi σ H'=>∃(c4 c5 c6:Option V)(l:Addr)(ps:List (Addr×V))(acc:List Cl),σ=[some (.ref ta),some (.ref ua),some (.int mk),some (.ref l),c4,c5,c6]/\Same H H'/\H' l=some (.lst (39:))/\H l=none/\ClAt K H' ps acc/\acc.length<=i*3^n/\Q5 (QH mk n) t.bs L []=Q5 (QH mk n) (t.bs.drop i) (L.drop i) acc) ⟨none,none,none,l0,[],[],rfl,g0,Qb,af,.nil,Nat.zero_le _,rfl⟩ ?_ ?_ ?_
 .rintro i σ H' _ ⟨_,_,_,_,_,_,_,g,_⟩;exact⟨g.seqT h2,g.seqT r2⟩
 .rintro i u' v' p σ H' ag ar hp ⟨c4,c5,c6,l,ps,acc,rfl,g,hl,nl,hA,as,J⟩;have gp:=Qe hp (.tup [u',v']);have hi:=(List.getElem?_eq_some_iff.mp ag).1;obtain⟨c,hc⟩: ∃c,t.bs[i]?=some c:=(26:);obtain⟨y,hy⟩: ∃y,L[i]?=some y:=(26:);obtain⟨cv,au,av⟩:=h3.get hc;obtain rfl:cv=u':=Option.some.inj (au.symm.trans ag);obtain⟨zv,aw,ax⟩:=r3.get hy;obtain rfl:zv=v':=Option.some.inj (aw.symm.trans ar);have gg:=g.trans gp;have ah:=List.mem_of_getElem? hc;have:=Yg ah;have e1:t.bs.drop i=c::t.bs.drop (i+1):=by rw [List.drop_eq_getElem_cons (List.getElem?_eq_some_iff.mp hc).1,(List.getElem?_eq_some_iff.mp hc).2]
  have e2:L.drop i=y::L.drop (i+1):=by rw [List.drop_eq_getElem_cons (50:).1,(50:).2]
  rw [e1,e2]at J;have J:Q5 (QH mk n) t.bs L []=match QH mk n c y with
   | some x=>Q5 (QH mk n) (t.bs.drop (i+1)) (L.drop (i+1)) (acc++x)
   | none=>none:=J
  refine⟨p,_,rfl,SqT.of Qb,rfl,_,_,rfl,_,_,rfl,rfl,?_⟩;refine⟨_,rfl,_,rfl,_,rfl,cv,zv,c,y,mk,cs,rfl,tmS gg av,trS gg ax,by lia,ak c ah,by lia,λhs H3 g3=>?_,λx hs l3 qs H3 g3 ay a6 ai a7=>?_⟩
  .rw [hs]at J;exact⟨_,rfl,_,rfl,JJ rfl (qn J H3 (gg.trans g3))⟩
  .rw [hs]at J;refine⟨_,rfl,_,rfl,JO (46:) ?_⟩;have gA:=gp.trans g3;have az:i*3^n<=3*3^n:=Nat.mul_le_mul_right _ (3:);have a8:ps.length=acc.length:=hA.n;have a9:=ai.n;refine⟨_,rfl,_,rfl,l,l3,_,_,rfl,rfl,SqL.of (gA _ _ hl),SqL.of ay,(by rw [List.length_map,List.length_map,Qz];lia),λl4 aj=>?_⟩;have g4:=Qe aj (.lst (ps.map (λp=>V.ref p.1)++qs.map (λp=>V.ref p.1)));refine⟨_,_,_,l4,ps++qs,acc++x,rfl,(gg.trans g3).trans g4,?_,(gg.trans g3).back aj,(hA.mono λ_ _ h=>g4.seqT (gA.seqT h)).append (ai.mono λ_ _ h=>g4.seqT h),?_,J⟩
   .rw [List.map_append];exact Qb
   .rw [List.length_append,Nat.succ_mul];lia
 .rintro σ H3 ⟨c4,c5,c6,l,ps,acc,rfl,g,hl,nl,hA,as,J⟩;have:Q5 (QH mk n) (t.bs.drop M.length) (L.drop M.length) acc=some acc:=by rw [List.drop_of_length_le (3:)];rfl
  rw [this]at J;refine⟨_,rfl,q acc J l ps H3 g hl nl hA ?_⟩;have az:M.length*3^n<=3*3^n:=Nat.mul_le_mul_right _ (3:);rw [Nat.pow_succ];lia
theorem WP{k:Nat}:FnOk P w K mg base CX0 k f fd ["_law_term_here","_law_tree_here","_law_mark_here"] (ZM K 0):=by
 have G:∀vs H Q E,¬ZM K 0 vs H Q E:=λvs H Q E h=>by
  obtain⟨tv,M,t,u,mk,cs,_,_,_,J,_⟩:=h;rw [Q4]at J;lia
 exact(58:)
theorem JI(F:Fun K "_law_stands" "_law_stands" YZ f fd)(G:Gm mg)(hb:Binds K fd ["_law_term_here","_law_tree_here","_law_mark_here"] [])(hm:mg "_law_stands"=some (.ref f)):∀n:Nat,FnOk P w K mg base CX0 n f fd ["_law_term_here","_law_tree_here","_law_mark_here"] (ZM K n)
 | 0=>WP
 | n+1=>Ln F G ⟨f,fd,JI F G hb hm n,hb,F.kp,hm⟩
end
end K70
namespace K70
open PySem L2 TM TT ST K9 K11
mutual
theorem L8:∀a b:Tree Str,PyData.eqv (td a) (td b)=true->a=b
 | .node n m bs,.node L M G,h=>by
  simp only [td,PyData.eqv,PyData.eqvAll,Bool.and_eq_true,decide_eq_true_eq,beq_iff_eq]at h;obtain⟨h1,h2,J,_⟩:=h;rw [h1,h2,Ga bs G J]
theorem Ga:∀as bs:List (40:),PyData.eqvAll (tds as) (tds bs)=true->as=bs
 | [],[],_=>rfl
 | [],_::_,h=>by simp [tds,PyData.eqvAll]at h
 | _::_,[],h=>by simp [tds,PyData.eqvAll]at h
 | a::as,b::bs,h=>by
  simp only [tds,PyData.eqvAll,Bool.and_eq_true]at h;rw [L8 a b h.1,Ga as bs h.2]
end
def addC(c:Cl)(es:List (List Enu)):Option (List (List Enu)):=match look ((es[c.2.1.toNat]?).getD []) c.1 with
 | some u'=>if PyData.eqv (td u') (td c.2.2)=true then some es else none
 | none=>some (es.set c.2.1.toNat ((es[c.2.1.toNat]?).getD []++[(c.1,c.2.2)]))
def QO:List Cl->List (List Enu)->Option (List (List Enu))
 | c::cs,es=>(addC c es).bind (QO cs)
 | [],es=>some es
def Zk:List Tm->List (40:)->Int->Int
 | t::ts,u::us,m=>Zk ts us ((Z6 3 t u).getD m)
 | _,_,m=>m
def Y5(mk:Int):List Tm->List (40:)->List (List Enu)->Option (List (List Enu))
 | t::ts,u::us,es=>(QH mk 3 t u).bind λcs=>(QO cs es).bind (Y5 mk ts us)
 | _,_,es=>some es
def ZU(w:Nat)(ts:List Tm)(us:List (40:)):Option (List (List Enu)):=Y5 (Zk ts us 0) ts us (List.replicate w [])
structure TabE(K:Fg)(H:Hp)(w:Nat)(es:List (List Enu))(ln:Addr)(ds:List Addr):Prop where
 hl:H ln=some (.lst (ds.map V.ref))
 dl:ds.length=w
 el:es.length=w
 hd:∀(i:Nat) d e,ds[i]?=some d->es[i]?=some e->∃ev,H d=some (.dK (dKv ev))/\EsAt K H ev e
 nd:ds.Nodup
 en:∀e∈es,EnOk e
def SameT(ds:List Addr)(H H':Hp):Prop:=∀b u,b∉ds->H b=some u->H' b=some u
theorem SameT.refl(ds:List Addr)(H:Hp):SameT ds H H:=λ_ _ _ e=>e
theorem SameT.trans{ds:List Addr}{H H1 H2:Hp}(a:SameT ds H H1)(b:SameT ds H1 H2):SameT ds H H2:=λc u n e=>b c u n (a c u n e)
theorem Wq{e:List Enu}{m:Int}{u:Tree Str}(h:look e m=some u):(m,u)∈e:=by
 unfold look at h;cases G:e.find? λz=>decide (z.1=m)with
 | none=>rw [G]at h;cases h
 | some z=>
  rw [G]at h;have h2:z.2=u:=by simpa using h
  have h1:z.1=m:=by simpa using List.find?_some G
  have J:=List.mem_of_find?_eq_some G;rw [<-h1,<-h2];exact J
section
variable{K:Fg}{H H':Hp}{w:Nat}{es:List (List Enu)}{ln:Addr}{ds:List Addr}
theorem TabE.dic(T:TabE K H w es ln ds){d:Addr}(h:d∈ds):∃kvs,H d=some (.dK kvs):=by
 obtain⟨i,hi,rfl⟩:=List.getElem_of_mem h;obtain⟨G,e,_⟩:=T.hd i _ _ (24:) (List.getElem?_eq_getElem (show i<es.length by rw [T.el,<-T.dl];exact hi));exact⟨_,e⟩
theorem TabE.two(T:TabE K H w es ln ds)(g:SameT ds H H'){a:Addr}{o:HO}(h:H a=some o)(n2:∀f,o≠.dK f):H' a=some o:=by
 refine g _ _ (λz=>?_) h;obtain⟨kvs,G⟩:=T.dic z;rw [G]at h;exact n2 _ (Option.some.inj h).symm
theorem TabE.seqT(T:TabE K H w es ln ds)(g:SameT ds H H'){a:Addr}{xs:List V}(h:SqT K H a xs):SqT K H' a xs:=by
 rcases h with(q | ⟨o,q⟩) | q
 .exact .inl (.inl (T.two g q (λf z=>by cases z)))
 .exact .inl (.inr ⟨o,T.two g q (λf z=>by cases z)⟩)
 .exact .inr q
theorem TabE.seqL(T:TabE K H w es ln ds)(g:SameT ds H H'){a:Addr}{xs:List V}(h:SqL K H a xs):SqL K H' a xs:=by
 rcases h with(q | ⟨o,q⟩) | q
 .exact .inl (.inl (T.two g q (λf z=>by cases z)))
 .exact .inl (.inr ⟨o,T.two g q (λf z=>by cases z)⟩)
 .exact .inr q
theorem TabE.same(T:TabE K H w es ln ds)(g:Same H H'):TabE K H' w es ln ds:=
 ⟨g _ _ T.hl,T.dl,T.el,λi d e a b=>by
  obtain⟨G,h1,h2⟩:=T.hd i d e a b;exact⟨G,g _ _ h1,h2.mono λ_ _=>g.seqT⟩,T.nd,T.en⟩
theorem TabE.put(T:TabE K H w es ln ds){j:Nat}{d:Addr}{ev:List Ent}{e:List Enu}{m:Int}{v:V}{u:Tree Str}(hd:ds[j]?=some d)(he:es[j]?=some e)(hde:H d=some (.dK (dKv ev)))(hE:EsAt K H ev e)(hv:TrV K H v u)(hG:GT 50 u)(hm:∃k:Nat,m=(k:Int)/\k<10){es':List (List Enu)}(ha:addC (m,(j:Int),u) es=some es'):
 TabE K (upd H d (.dK (ZJ (dKv ev) (Sum.inl m) v))) w es' ln ds/\SameT ds H (upd H d (.dK (ZJ (dKv ev) (Sum.inl m) v))):=by
 have ah:=List.mem_of_getElem? hd;have g:SameT ds H (upd H d (.dK (ZJ (dKv ev) (Sum.inl m) v))):=λb u n eb=>by
  have nb:b≠d:=λq=>n (by rw [q];exact ah);rw [Qh nb];exact eb
 have hi:=(List.getElem?_eq_some_iff.mp he).1;have hO:=T.en e (List.mem_of_getElem? he);have ag:ev.length=e.length:=by have:=congrArg List.length hE.m;simpa using this
 have ab:upd H d (.dK (ZJ (dKv ev) (Sum.inl m) v)) ln=some (.lst (ds.map V.ref)):=by rw [Qh (Q3 T.hl hde (by intro q;cases q))];exact T.hl
 have U:∀{ac:List (List Enu)},(∀i:Nat,i≠j->ac[i]?=es[i]?)->∀(i:Nat) L M,i≠j->ds[i]?=some L->ac[i]?=some M->∃aa,upd H d (.dK (ZJ (dKv ev) (Sum.inl m) v)) L=some (.dK (dKv aa))/\EsAt K (upd H d (.dK (ZJ (dKv ev) (Sum.inl m) v))) aa M:=λh2 i L M J a b=>by
  rw [h2 i J]at b;have ai:L≠d:=λq=>J ((List.getElem?_inj (List.getElem?_eq_some_iff.mp a).1 T.nd).mp (by rw [a,hd,q]));obtain⟨aa,h1,h2⟩:=T.hd i L M a b;exact⟨aa,by rw [Qh ai];exact h1,h2.mono λ_ _ h=>T.seqT g h⟩
 have ha:(match look e m with
  | some Y=>if PyData.eqv (td Y) (td u)=true then some es else none
  | none=>some (es.set j (e++[(m,u)])))=some es':=by
  rw [<-ha];unfold addC;show _=match look ((es[(j:Int).toNat]?).getD []) m with
   | some Y=>if PyData.eqv (td Y) (td u)=true then some es else none
   | none=>some (es.set (j:Int).toNat ((es[(j:Int).toNat]?).getD []++[(m,u)]))
  rw [Int.toNat_natCast,he]
  rfl
 cases hl:look e m with
 | some Y=>
  rw [hl]at ha;have ha:(if PyData.eqv (td Y) (td u)=true then some es else none)=some es':=ha
  by_cases Z:PyData.eqv (td Y) (td u)=true
  case neg=>rw [if_neg Z]at ha;cases ha
  rw [if_pos Z]at ha;cases ha;have eu:=L8 Y u Z;subst eu;have ad:=Wq hl;have aj:m∈ev.map (·.1):=by rw [hE.m];exact List.mem_map.mpr ⟨_,ad,rfl⟩
  have ep:ZJ (dKv ev) (Sum.inl m) v=dKv (ev.map λz=>if z.1=m then(z.1,v)else z):=by
   unfold ZJ;have:((dKv ev).any λkv=>decide (kv.1=Sum.inl m))=true:=by
    rw [List.any_eq_true];obtain⟨z,G,ez⟩:=List.mem_map.mp aj;exact⟨(Sum.inl z.1,z.2),List.mem_map.mpr ⟨z,G,rfl⟩,by simp [ez]⟩
   rw [if_pos this];unfold dKv;rw [List.map_map,List.map_map];refine List.map_congr_left λz _=>?_;show(if(Sum.inl z.1:Key)=Sum.inl m then((Sum.inl z.1:Key),v)else(Sum.inl z.1,z.2))=(Sum.inl (if z.1=m then(z.1,v)else z).1,(if z.1=m then(z.1,v)else z).2)
   by_cases G:z.1=m
   .rw [if_pos (by rw [G]),if_pos G]
   .rw [if_neg (λq=>G (Sum.inl.inj q)),if_neg G]
  refine⟨⟨ab,T.dl,T.el,λi L M a b=>?_,T.nd,T.en⟩,g⟩
  by_cases J:i=j
  .subst J;rw [hd]at a;cases a;rw [he]at b;cases b;refine⟨_,by rw [Qb,ep],?_,λk z y a b=>?_⟩
   .rw [<-hE.m,List.map_map];refine List.map_congr_left λz _=>?_;show(if z.1=m then(z.1,v)else z).1=z.1
    by_cases G:z.1=m
    .rw [if_pos G]
    .rw [if_neg G]
   .rw [List.getElem?_map]at a;cases hk:ev[k]? with
    | none=>rw [hk]at a;cases a
    | some z0=>
     rw [hk]at a;have a:(if z0.1=m then(z0.1,v)else z0)=z:=by simpa using a
     have ak:=(hE.v k z0 y hk b).mono λ_ _ h=>T.seqT g h;have ek:z0.1=y.1:=by
      have q:(ev.map (·.1))[k]?=(e.map (·.1))[k]?:=by rw [hE.m]
      rw [List.getElem?_map,List.getElem?_map,hk,b]at q;exact Option.some.inj q
     by_cases G:z0.1=m
     .rw [if_pos G]at a;have ey:y=(m,Y):=Vq hO.nd (List.mem_of_getElem? b) ad (by rw [<-ek];exact G);rw [<-a,ey];exact hv.mono λ_ _ h=>T.seqT g h
     .rw [if_neg G]at a;rw [<-a];exact ak
  .exact U (2:) i L M J a b
 | none=>
  rw [hl]at ha;have ha:some (es.set j (e++[(m,u)]))=some es':=ha;cases ha;have hk:m∉e.map (·.1):=λq=>by
   obtain⟨z,G,ez⟩:=List.mem_map.mp q;unfold look at hl;have:=List.find?_eq_none.mp (Option.map_eq_none_iff.mp hl) z G;simp [ez]at this
  have al:ZG (dKv ev) (Sum.inl m)=none:=by
   unfold ZG;rw [List.find?_eq_none.mpr λz G=>?_]
   .rfl
   .obtain⟨y,hy,rfl⟩:=List.mem_map.mp G;simp only [decide_eq_true_eq];exact λq=>hk (by rw [<-hE.m];exact List.mem_map.mpr ⟨y,hy,Sum.inl.inj q⟩)
  have ep:ZJ (dKv ev) (Sum.inl m) v=dKv (ev++[(m,v)]):=by
   rw [M4 v al];unfold dKv;rw [List.map_append]
   rfl
  refine⟨⟨ab,T.dl,by rw [List.length_set];exact T.el,λi L M a b=>?_,T.nd,λM am=>?_⟩,g⟩
  .by_cases J:i=j
   .subst J;rw [hd]at a;cases a;rw [List.getElem?_set_self hi]at b;cases b;refine⟨_,by rw [Qb,ep],by rw [List.map_append,List.map_append,hE.m];rfl,λk z y a b=>?_⟩
    by_cases an:k<ev.length
    .rw [List.getElem?_append_left an]at a;rw [List.getElem?_append_left (3:)]at b;exact(hE.v k z y a b).mono λ_ _ h=>T.seqT g h
    .rw [List.getElem?_append_right (3:)]at a;rw [List.getElem?_append_right (3:),<-ag]at b;cases Z:k-ev.length with
     | zero=>
      rw [Z]at a b;cases a;cases b;exact hv.mono λ_ _ h=>T.seqT g h
     | succ q=>rw [Z]at a;cases a
   .exact U (λi hi=>List.getElem?_set_ne (λq=>hi q.symm)) i L M J a b
  .obtain⟨i,ae,rfl⟩:=List.getElem_of_mem am;rw [List.length_set]at ae
   by_cases af:j=i
   .subst af;rw [List.getElem_set_self];refine⟨?_,λz G=>?_,λz G=>?_⟩
    .rw [List.map_append,List.nodup_append];exact⟨hO.nd,by simp,λp hp q Z z'=>hk (by
      have:q=m:=by simpa using Z
      rw [<-this,<-z'];exact hp)⟩
    .rcases List.mem_append.mp G with q | q
     .exact hO.gt z q
     .rw [List.mem_singleton.mp q];exact hG
    .rcases List.mem_append.mp G with q | q
     .exact hO.mr z q
     .rw [List.mem_singleton.mp q];exact hm
   .rw [List.getElem_set_ne af];exact T.en _ (List.getElem_mem ae)
end
end K70
namespace K70
open PySem L2 TM TT ST K9 K11
abbrev Fl:=List Int×List Cl
def flL(g:Tm->Tree Str->Option Fl):List Tm->List (40:)->Option Fl
 | t::ts,u::us=>(g t u).bind λa=>(flL g ts us).map λb=>(a.1++b.1,a.2++b.2)
 | _,_=>some ([],[])
def kept(k:Bool)(x:Int):List Int:=if k=true then [x]else []
def fl:Nat->Tm->Tree Str->Option Fl
 | 0,_,_=>none
 | n+1,t,u=>match lab t with
  | .call m b=>some ([],[(m,b,u)])
  | .put nm k ad=>if nm=nam u/\t.bs.length=u.bs.length/\(k=false->ad=mrk u)then(flL (fl n) t.bs u.bs).map λb=>(kept k (mrk u-ad)++b.1,b.2)else none
def ZP:List Int->Option Int->Option (Option Int)
 | [],m=>some m
 | x::r,none=>ZP r (some x)
 | x::r,some y=>if x=y then ZP r (some y)else none
theorem ZF:∀(a b:List Int)(m:Option Int),ZP (a++b) m=(ZP a m).bind (ZP b)
 | [],b,m=>rfl
 | x::r,b,none=>ZF r b (some x)
 | x::r,b,some y=>by
  show(if x=y then ZP (r++b) (some y)else none)=(if x=y then ZP r (some y)else none).bind (ZP b)
  by_cases h:x=y
  .rw [if_pos h,if_pos h,ZF r b]
  .rw [if_neg h,if_neg h];rfl
theorem Zl:∀(a b:List Cl)(es:List (List Enu)),QO (a++b) es=(QO a es).bind (QO b)
 | [],b,es=>rfl
 | c::r,b,es=>by
  show(addC c es).bind (QO (r++b))=((addC c es).bind (QO r)).bind (QO b);cases addC c es with
  | none=>rfl
  | some e=>exact Zl r b e
def Run(a:Fl)(s s':Fs):Prop:=ZP a.1 s.m=some s'.m/\QO a.2 s.es=some s'.es
theorem Run.append{a b:Fl}{s s':Fs}:Run (a.1++b.1,a.2++b.2) s s'↔ ∃s1,Run a s s1/\Run b s1 s':=by
 constructor
 .rintro⟨h1,h2⟩;rw [ZF]at h1;rw [Zl]at h2;cases G:ZP a.1 s.m with
  | none=>rw [G]at h1;cases h1
  | some M=>
   cases J:QO a.2 s.es with
   | none=>rw [J]at h2;cases h2
   | some L=>
    rw [G]at h1;rw [J]at h2;exact⟨⟨M,L⟩,⟨G,J⟩,h1,h2⟩
 .rintro⟨s1,⟨U,a2⟩,Y,b2⟩;exact⟨by rw [ZF,U];exact Y,by rw [Zl,a2];exact b2⟩
theorem Run.nil{s s':Fs}:Run ([],[]) s s'↔s'=s:=by
 constructor
 .rintro⟨h1,h2⟩;obtain⟨m,es⟩:=s;obtain⟨J,G⟩:=s';cases h1;cases h2
  rfl
 .rintro rfl;exact⟨rfl,rfl⟩
theorem U1{f:Tm->Tree Str->Option Fl}{G:List Tm->List (40:)->Fs->Fs->Prop}{g:Tm->Tree Str->Fs->Fs->Prop}(hg:∀t u s s',g t u s s'↔ ∃a,f t u=some a/\Run a s s')(h0:∀us s s',G [] us s s'↔s'=s)(h1:∀t ts s s',G (t::ts) [] s s'↔s'=s)(h2:∀t ts u us s s',G (t::ts) (u::us) s s'↔ ∃s1,g t u s s1/\G ts us s1 s'):
 ∀ts us s s',G ts us s s'↔ ∃a,flL f ts us=some a/\Run a s s'
 | [],us,s,s'=>by
  rw [h0];constructor
  .rintro rfl;exact⟨([],[]),by cases us<;>rfl,Run.nil.mpr rfl⟩
  .rintro⟨a,e,r⟩;have e:some ([],[])=some a:=by rw [<-e];cases us<;>rfl
   cases e;exact Run.nil.mp r
 | t::ts,[],s,s'=>by
  rw [h1];constructor
  .rintro rfl;exact⟨([],[]),rfl,Run.nil.mpr rfl⟩
  .rintro⟨a,e,r⟩;cases e;exact Run.nil.mp r
 | t::ts,u::us,s,s'=>by
  rw [h2];constructor
  .rintro⟨s1,Y,Z⟩;obtain⟨a,L,U⟩:=(hg t u s s1).mp Y;obtain⟨b,M,rb⟩:=(U1 hg h0 h1 h2 ts us s1 s').mp Z;refine⟨(a.1++b.1,a.2++b.2),?_,Run.append.mpr ⟨s1,U,rb⟩⟩;show(f t u).bind _=_;rw [L];show(flL f ts us).map _=_;rw [M]
   rfl
  .rintro⟨c,J,rc⟩;have J:(f t u).bind (λa=>(flL f ts us).map λb=>(a.1++b.1,a.2++b.2))=some c:=J;cases L:f t u with
   | none=>rw [L]at J;cases J
   | some a=>
    cases M:flL f ts us with
    | none=>rw [L,M]at J;cases J
    | some b=>
     rw [L,M]at J;cases J;obtain⟨s1,U,rb⟩:=Run.append.mp rc;exact⟨s1,(hg t u s s1).mpr ⟨a,L,U⟩,(U1 hg h0 h1 h2 ts us s1 s').mpr ⟨b,M,rb⟩⟩
theorem NV{g:Tm->Tree Str->Fs->Bool×Fs}{f:Tm->Tree Str->Option Fl}(hg:∀t u s s',g t u s=(true,s')↔ ∃a,f t u=some a/\Run a s s')(ts:List Tm)(us:List (40:))(s s':Fs):((goL g ts us s).1.all id=true/\(goL g ts us s).2=s')↔ ∃a,flL f ts us=some a/\Run a s s':=by
 refine U1 (G:=λts us s s'=>(goL g ts us s).1.all id=true/\(goL g ts us s).2=s') (g:=λt u s s'=>g t u s=(true,s')) hg (λus s s'=>?_) (λt ts s s'=>?_) (λt ts u us s s'=>?_) ts us s s'
 .exact⟨λh=>by rw [<-h.2];cases us<;>rfl,λh=>by rw [h];cases us<;>exact⟨rfl,rfl⟩⟩
 .exact⟨λh=>h.2.symm,λh=>by rw [h];exact⟨rfl,rfl⟩⟩
 .show((((g t u s).1::(goL g ts us (g t u s).2).1).all id=true)/\(goL g ts us (g t u s).2).2=s')↔_;rw [List.all_cons,Bool.and_eq_true];constructor
  .rintro⟨⟨a,b⟩,c⟩;have a:(g t u s).1=true:=a;exact⟨(g t u s).2,by rw [<-a],b,c⟩
  .rintro⟨J,a,b,c⟩;rw [a];exact⟨⟨rfl,b⟩,c⟩
theorem WN{k:Bool}{ad m:Int}{s s':Fs}:mkGo k ad m s=(true,s')↔(k=false->ad=m)/\Run (kept k (m-ad),[]) s s':=by
 obtain⟨mk,es⟩:=s;obtain⟨mk',G⟩:=s';cases k with
 | false=>
  show(decide (ad=m),(⟨mk,es⟩:Fs))=(true,⟨mk',G⟩)↔_/\(some mk=some mk'/\some es=some G);constructor
  .intro h;obtain⟨h1,h2⟩:=Prod.mk.inj h;cases h2;exact⟨λ_=>of_decide_eq_true h1,rfl,rfl⟩
  .rintro⟨h1,h2,J⟩;cases h2;cases J;rw [decide_eq_true (h1 rfl)]
 | true=>
  cases mk with
  | none=>
   show(true,(⟨some (m-ad),es⟩:Fs))=(true,⟨mk',G⟩)↔_/\(some (some (m-ad))=some mk'/\some es=some G);constructor
   .intro h;obtain⟨h1,h2⟩:=Prod.mk.inj h;cases h2;exact⟨λz=>(nomatch z),rfl,rfl⟩
   .rintro⟨h1,h2,J⟩;cases h2;cases J
    rfl
  | some x=>
   show(decide (ad+x=m),(⟨some x,es⟩:Fs))=(true,⟨mk',G⟩)↔_/\((if m-ad=x then some (some x)else none)=some mk'/\some es=some G);constructor
   .intro h;obtain⟨h1,h2⟩:=Prod.mk.inj h;cases h2;have:=of_decide_eq_true h1;exact⟨λz=>(nomatch z),by rw [if_pos (3:)],rfl⟩
   .rintro⟨h1,h2,J⟩
    by_cases L:m-ad=x
    .rw [if_pos L]at h2;cases h2;cases J;rw [decide_eq_true (3:)]
    .rw [if_neg L]at h2;cases h2
theorem Np{m b:Int}{u:Tree Str}{s s':Fs}:JQ m b.toNat u s=(true,s')↔Run ([],[(m,b,u)]) s s':=by
 obtain⟨mk,es⟩:=s;obtain⟨mk',G⟩:=s';have M:QO [(m,b,u)] es=addC (m,b,u) es:=by
  show(addC (m,b,u) es).bind _=_;cases addC (m,b,u) es with
  | none=>rfl
  | some e=>rfl
 show _↔(some mk=some mk'/\QO [(m,b,u)] es=some G);rw [M];unfold JQ addC;show(match look ((es[b.toNat]?).getD []) m with
  | some J=>(PyData.eqv (td J) (td u),(⟨mk,es⟩:Fs))
  | none=>(true,⟨mk,es.set b.toNat ((es[b.toNat]?).getD []++[(m,u)])⟩))=(true,⟨mk',G⟩)↔(some mk=some mk'/\(match look ((es[b.toNat]?).getD []) m with
  | some J=>if PyData.eqv (td J) (td u)=true then some es else none
  | none=>some (es.set b.toNat ((es[b.toNat]?).getD []++[(m,u)])))=some G)
 cases look ((es[b.toNat]?).getD []) m with
 | none=>
  constructor
  .intro h;obtain⟨h1,h2⟩:=Prod.mk.inj h;cases h2;exact⟨rfl,rfl⟩
  .rintro⟨h1,h2⟩;cases h1;cases h2
   rfl
 | some J=>
  show(PyData.eqv (td J) (td u),(⟨mk,es⟩:Fs))=(true,⟨mk',G⟩)↔(some mk=some mk'/\(if PyData.eqv (td J) (td u)=true then some es else none)=some G);constructor
  .intro h;obtain⟨h1,h2⟩:=Prod.mk.inj h;cases h2;rw [if_pos h1];exact⟨rfl,rfl⟩
  .rintro⟨h1,h2⟩
   by_cases L:PyData.eqv (td J) (td u)=true
   .rw [if_pos L]at h2;cases h1;cases h2;rw [L]
   .rw [if_neg L]at h2;cases h2
theorem MP:∀(n:Nat)(t:Tm)(u:Tree Str)(s s':Fs),go n t u s=(true,s')↔ ∃a,fl n t u=some a/\Run a s s'
 | 0,t,u,s,s'=>⟨λh=>(by cases (Prod.mk.inj h).1),λ⟨a,e,_⟩=>by cases e⟩
 | n+1,t,u,s,s'=>by
  rw [go,fl];cases hl:lab t with
  | call m b=>
   show JQ m b.toNat u s=(true,s')↔ ∃a,some ([],[(m,b,u)])=some a/\Run a s s';rw [Np];exact⟨λh=>⟨_,rfl,h⟩,λ⟨a,e,h⟩=>by cases e;exact h⟩
  | put nm k G=>
   have Y:=NV (g:=go n) (f:=fl n) (MP n) t.bs u.bs;show(if nm=nam u/\t.bs.length=u.bs.length then(if(mkGo k G (mrk u) s).1=true then((goL (go n) t.bs u.bs (mkGo k G (mrk u) s).2).1.all id,(goL (go n) t.bs u.bs (mkGo k G (mrk u) s).2).2)else(false,(mkGo k G (mrk u) s).2))else(false,s))=(true,s')↔ ∃a,(34:)=some a/\Run a s s';constructor
   .intro h
    by_cases h1:nm=nam u/\t.bs.length=u.bs.length
    case neg=>rw [if_neg h1]at h;cases (Prod.mk.inj h).1
    rw [if_pos h1]at h
    by_cases h2:(mkGo k G (mrk u) s).1=true
    case neg=>rw [if_neg h2]at h;cases (Prod.mk.inj h).1
    rw [if_pos h2]at h;obtain⟨L,M⟩:=Prod.mk.inj h;obtain⟨Z,U⟩:=(WN (k:=k) (ad:=G) (m:=mrk u) (s:=s) (s':=(mkGo k G (mrk u) s).2)).mp (by rw [<-h2]);obtain⟨b,J,rb⟩:=(Y _ s').mp ⟨L,M⟩;refine⟨_,by rw [if_pos ⟨h1.1,h1.2,Z⟩,J];rfl,(Run.append (a:=(kept k (mrk u-G),[])) (b:=b)).mpr ⟨_,U,rb⟩⟩
   .rintro⟨a,e,U⟩
    by_cases h1:nm=nam u/\t.bs.length=u.bs.length/\(k=false->G=mrk u)
    case neg=>rw [if_neg h1]at e;cases e
    rw [if_pos h1]at e;cases J:flL (fl n) t.bs u.bs with
    | none=>rw [J]at e;cases e
    | some b=>
     rw [J]at e;cases e;obtain⟨s1,ra,rb⟩:=(Run.append (a:=(kept k (mrk u-G),[])) (b:=b)).mp U;have hm:=WN.mpr ⟨h1.2.2,ra⟩;obtain⟨L,M⟩:=(Y s1 s').mpr ⟨b,J,rb⟩;rw [if_pos ⟨h1.1,h1.2.1⟩,hm];show(if true=true then _ else _)=_;rw [if_pos rfl,L,M]
theorem VZ(ts:List Tm)(us:List (40:))(s s':Fs):gos ts us s=some s'↔ ∃a,flL (fl 3) ts us=some a/\Run a s s':=by
 refine U1 (G:=λts us s s'=>gos ts us s=some s') (g:=λt u s s'=>go 3 t u s=(true,s')) (MP 3) (λus s s'=>?_) (λt ts s s'=>?_) (λt ts u us s s'=>?_) ts us s s'
 .have:gos [] us s=some s:=by cases us<;>rfl
  rw [this];exact⟨λh=>(Option.some.inj h).symm,λh=>by rw [h]⟩
 .exact⟨λh=>(Option.some.inj h).symm,λh=>by rw [h];rfl⟩
 .show(if(go 3 t u s).1=true then gos ts us (go 3 t u s).2 else none)=some s'↔_;constructor
  .intro h
   by_cases h1:(go 3 t u s).1=true
   .rw [if_pos h1]at h;exact⟨(go 3 t u s).2,by rw [<-h1],h⟩
   .rw [if_neg h1]at h;cases h
  .rintro⟨J,h1,h2⟩;rw [h1];exact h2
end K70
namespace K70
open PySem L2 TM TT ST K9 K11
theorem Uf{mk:Int}{g:Tm->Tree Str->Option (List Cl)}{f:Tm->Tree Str->Option Fl}(hg:∀t u cs,g t u=some cs↔ ∃a,f t u=some a/\(∀x∈a.1,x=mk)/\cs=a.2):∀(ts:List Tm)(us:List (40:))(acc cs:List Cl),Q5 g ts us acc=some cs↔ ∃a,flL f ts us=some a/\(∀x∈a.1,x=mk)/\cs=acc++a.2
 | [],us,acc,cs=>by
  have Z:Q5 g [] us acc=some acc:=by cases us<;>rfl
  have e2:flL f [] us=some ([],[]):=by cases us<;>rfl
  rw [Z,e2];exact⟨λh=>⟨_,rfl,λx G=>(nomatch G),by rw [<-Option.some.inj h,List.append_nil]⟩,λ⟨a,e,_,h⟩=>by cases e;rw [h,List.append_nil]⟩
 | t::ts,[],acc,cs=>⟨λh=>⟨([],[]),rfl,λx G=>(nomatch G),by rw [<-Option.some.inj h,List.append_nil]⟩,λ⟨a,e,_,h⟩=>by cases e;rw [h,List.append_nil];rfl⟩
 | t::ts,u::us,acc,cs=>by
  show(match g t u with | some x=>Q5 g ts us (acc++x) | none=>none)=some cs↔ ∃a,(f t u).bind (λa=>(flL f ts us).map λb=>(a.1++b.1,a.2++b.2))=some a/\(∀x∈a.1,x=mk)/\cs=acc++a.2;constructor
  .intro h;cases M:g t u with
   | none=>rw [M]at h;cases h
   | some x=>
    rw [M]at h;obtain⟨a,J,ha,G⟩:=(hg t u x).mp M;obtain⟨b,U,hb,Y⟩:=(Uf hg ts us (acc++x) cs).mp h;refine⟨(a.1++b.1,a.2++b.2),by rw [J,Option.bind_some,U];rfl,λy hy=>?_,by rw [Y,G,List.append_assoc]⟩;rcases List.mem_append.mp hy with q | q
    .exact ha y q
    .exact hb y q
  .rintro⟨c,L,Y,h⟩;cases J:f t u with
   | none=>rw [J]at L;cases L
   | some a=>
    cases U:flL f ts us with
    | none=>rw [J,U]at L;cases L
    | some b=>
     rw [J,U]at L;cases L;have M:=(hg t u a.2).mpr ⟨a,J,λx G=>Y x (List.mem_append_left _ G),rfl⟩;rw [M];exact(Uf hg ts us (acc++a.2) cs).mpr ⟨b,U,λx G=>Y x (List.mem_append_right _ G),by rw [h,List.append_assoc]⟩
theorem Ug{mk:Int}:∀(n:Nat)(t:Tm)(u:Tree Str)(cs:List Cl),QH mk n t u=some cs↔ ∃a,fl n t u=some a/\(∀x∈a.1,x=mk)/\cs=a.2
 | 0,t,u,cs=>⟨λh=>(by cases h),λ⟨a,e,_⟩=>by cases e⟩
 | n+1,t,u,cs=>by
  rw [QH,fl];cases hl:lab t with
  | call m b=>
   show some [(m,b,u)]=some cs↔ ∃a,some ([],[(m,b,u)])=some a/\_;exact⟨λh=>⟨_,rfl,λx J=>(nomatch J),(Option.some.inj h).symm⟩,λ⟨a,e,_,h⟩=>by cases e;rw [h]⟩
  | put nm k G=>
   have M:=Uf (g:=QH mk n) (f:=fl n) (mk:=mk) (Ug n) t.bs u.bs [];show(if nm=nam u/\G+mk*(if k=true then 1 else 0)=mrk u/\t.bs.length=u.bs.length then Q5 (QH mk n) t.bs u.bs []else none)=some cs↔ ∃a,(34:)=some a/\_;have U:G+mk*(if k=true then 1 else 0)=mrk u↔(k=false->G=mrk u)/\∀x∈kept k (mrk u-G),x=mk:=by
    cases k with
    | false=>
     show G+mk*0=mrk u↔_;exact⟨λh=>⟨λ_=>by lia,λx J=>(nomatch J)⟩,λh=>by have:=h.1 rfl;lia⟩
    | true=>
     show G+mk*1=mrk u↔_;exact⟨λh=>⟨λz=>(nomatch z),λx J=>by
      have:x=mrk u-G:=by simpa [kept]using J
      lia⟩,λh=>by
      have:=h.2 (mrk u-G) (by simp [kept]);lia⟩
   constructor
   .intro h
    by_cases h1:nm=nam u/\G+mk*(if k=true then 1 else 0)=mrk u/\t.bs.length=u.bs.length
    case neg=>rw [if_neg h1]at h;cases h
    rw [if_pos h1]at h;obtain⟨b,L,Z,hc⟩:=(M cs).mp h;obtain⟨k1,k2⟩:=U.mp h1.2.1;refine⟨_,by rw [if_pos ⟨h1.1,h1.2.2,k1⟩,L];rfl,λx J=>?_,by rw [hc];rfl⟩;rcases List.mem_append.mp J with q | q
    .exact k2 x q
    .exact Z x q
   .rintro⟨a,e,Y,h⟩
    by_cases h1:nm=nam u/\t.bs.length=u.bs.length/\(k=false->G=mrk u)
    case neg=>rw [if_neg h1]at e;cases e
    rw [if_pos h1]at e;cases L:flL (fl n) t.bs u.bs with
    | none=>rw [L]at e;cases e
    | some b=>
     rw [L]at e;cases e;rw [if_pos ⟨h1.1,U.mpr ⟨h1.2.2,λx J=>Y x (List.mem_append_left _ J)⟩,h1.2.1⟩];exact(M cs).mpr ⟨b,L,λx J=>Y x (List.mem_append_right _ J),by rw [h];rfl⟩
theorem Wk{g:Tm->Tree Str->Option Int}{f:Tm->Tree Str->Option Fl}(hg:∀t u a,f t u=some a->g t u=a.1.head?):∀(ts:List Tm)(us:List (40:))(a:Fl),flL f ts us=some a->Yy g ts us=a.1.head?
 | [],us,a,h=>by
  have:some ([],[])=some a:=by rw [<-h];cases us<;>rfl
  cases this;cases us<;>rfl
 | t::ts,[],a,h=>by cases h;rfl
 | t::ts,u::us,c,h=>by
  have h:(f t u).bind (λa=>(flL f ts us).map λb=>(a.1++b.1,a.2++b.2))=some c:=h;cases G:f t u with
  | none=>rw [G]at h;cases h
  | some a=>
   cases J:flL f ts us with
   | none=>rw [G,J]at h;cases h
   | some b=>
    rw [G,J]at h;cases h;show(match g t u with | some x=>some x | none=>Yy g ts us)=(a.1++b.1).head?;rw [hg t u a G,Wk hg ts us b J];cases a.1 with
    | nil=>rfl
    | cons x r=>rfl
theorem GG:∀(n:Nat)(t:Tm)(u:Tree Str)(a:Fl),fl n t u=some a->Z6 n t u=a.1.head?
 | 0,t,u,a,h=>by cases h
 | n+1,t,u,a,h=>by
  rw [fl]at h;rw [Z6];cases L:lab t with
  | call m b=>
   rw [L]at h;cases h
   rfl
  | put nm k G=>
   rw [L]at h;have h:(34:)=some a:=h;show(if t.bs.length=u.bs.length then(if k=true then some (mrk u-G)else Yy (Z6 n) t.bs u.bs)else none)=_
   by_cases h1:nm=nam u/\t.bs.length=u.bs.length/\(k=false->G=mrk u)
   case neg=>rw [if_neg h1]at h;cases h
   rw [if_pos h1]at h;rw [if_pos h1.2.1];cases J:flL (fl n) t.bs u.bs with
   | none=>rw [J]at h;cases h
   | some b=>
    rw [J]at h;cases h;cases k with
    | true=>rfl
    | false=>exact Wk (GG n) t.bs u.bs b J
theorem Uv:∀(ts:List Tm)(us:List (40:))(m:Int)(a:Fl),flL (fl 3) ts us=some a->(a.1=[]/\Zk ts us m=m)\/Zk ts us m∈a.1
 | [],us,m,a,h=>by
  have:some ([],[])=some a:=by rw [<-h];cases us<;>rfl
  cases this;exact .inl ⟨rfl,by cases us<;>rfl⟩
 | t::ts,[],m,a,h=>by cases h;exact .inl ⟨rfl,rfl⟩
 | t::ts,u::us,m,c,h=>by
  have h:(fl 3 t u).bind (λa=>(flL (fl 3) ts us).map λb=>(a.1++b.1,a.2++b.2))=some c:=h;cases G:fl 3 t u with
  | none=>rw [G]at h;cases h
  | some a=>
   cases J:flL (fl 3) ts us with
   | none=>rw [G,J]at h;cases h
   | some b=>
    rw [G,J]at h;cases h;show(a.1++b.1=[]/\Zk ts us ((Z6 3 t u).getD m)=m)\/Zk ts us ((Z6 3 t u).getD m)∈a.1++b.1;rw [GG 3 t u a G];rcases Uv ts us (a.1.head?.getD m) b J with⟨h1,h2⟩ | h1
    .cases e:a.1 with
     | nil=>
      rw [e]at h2;exact .inl ⟨by rw [h1];rfl,h2⟩
     | cons x r=>
      rw [e]at h2;have h2:Zk ts us x=x:=h2;refine .inr ?_;show Zk ts us x∈_;rw [h2];exact List.mem_append_left _ List.mem_cons_self
    .exact .inr (List.mem_append_right _ h1)
theorem Xt{mk:Int}:∀(ts:List Tm)(us:List (40:))(es es':List (List Enu)),Y5 mk ts us es=some es'↔ ∃a,flL (fl 3) ts us=some a/\(∀x∈a.1,x=mk)/\QO a.2 es=some es'
 | [],us,es,es'=>by
  have J:Y5 mk [] us es=some es:=by cases us<;>rfl
  have e2:flL (fl 3) [] us=some ([],[]):=by cases us<;>rfl
  rw [J,e2];exact⟨λh=>⟨_,rfl,λx G=>(nomatch G),h⟩,λ⟨a,e,_,h⟩=>by cases e;exact h⟩
 | t::ts,[],es,es'=>⟨λh=>⟨([],[]),rfl,λx G=>(nomatch G),h⟩,λ⟨a,e,_,h⟩=>by cases e;exact h⟩
 | t::ts,u::us,es,es'=>by
  show(QH mk 3 t u).bind (λcs=>(QO cs es).bind (Y5 mk ts us))=some es'↔ ∃a,(fl 3 t u).bind (λa=>(flL (fl 3) ts us).map λb=>(a.1++b.1,a.2++b.2))=some a/\(∀x∈a.1,x=mk)/\QO a.2 es=some es';constructor
  .intro h;cases U:QH mk 3 t u with
   | none=>rw [U]at h;cases h
   | some x=>
    rw [U,Option.bind_some]at h;cases J:QO x es with
    | none=>rw [J]at h;cases h
    | some Y=>
     rw [J,Option.bind_some]at h;obtain⟨a,L,ha,G⟩:=(Ug 3 t u x).mp U;obtain⟨b,Z,hb,hc⟩:=(Xt ts us Y es').mp h;refine⟨(a.1++b.1,a.2++b.2),by rw [L,Option.bind_some,Z];rfl,λy hy=>?_,?_⟩
     .rcases List.mem_append.mp hy with q | q
      .exact ha y q
      .exact hb y q
     .rw [Zl,<-G,J];exact hc
  .rintro⟨c,M,hc,h⟩;cases L:fl 3 t u with
   | none=>rw [L]at M;cases M
   | some a=>
    cases Z:flL (fl 3) ts us with
    | none=>rw [L,Z]at M;cases M
    | some b=>
     rw [L,Z]at M;cases M;have U:=(Ug (mk:=mk) 3 t u a.2).mpr ⟨a,L,λx G=>hc x (List.mem_append_left _ G),rfl⟩;rw [U,Option.bind_some];have h:QO (a.2++b.2) es=some es':=h;rw [Zl]at h;cases J:QO a.2 es with
     | none=>rw [J]at h;cases h
     | some Y=>
      rw [J,Option.bind_some]at h;rw [Option.bind_some];exact(Xt ts us Y es').mpr ⟨b,Z,λx G=>hc x (List.mem_append_right _ G),h⟩
theorem YL:∀(ms:List Int)(y:Int)(m':Option Int),ZP ms (some y)=some m'↔(∀x∈ms,x=y)/\m'=some y
 | [],y,m'=>⟨λh=>⟨λx J=>(nomatch J),(Option.some.inj h).symm⟩,λh=>by rw [h.2];rfl⟩
 | x::r,y,m'=>by
  show(if x=y then ZP r (some y)else none)=some m'↔_
  by_cases h:x=y
  .rw [if_pos h,YL r y m'];exact⟨λq=>⟨λz G=>by
    rcases List.mem_cons.mp G with e | e
    .rw [e];exact h
    .exact q.1 z e,q.2⟩,λq=>⟨λz G=>q.1 z (19:),q.2⟩⟩
  .rw [if_neg h];exact⟨λq=>(by cases q),λq=>absurd (q.1 x List.mem_cons_self) h⟩
theorem J2{ms:List Int}{M:Int}(hM:ms=[]\/M∈ms):(∀x∈ms,x=M)↔ ∃m',ZP ms none=some m':=by
 cases ms with
 | nil=>exact⟨λ_=>⟨none,rfl⟩,λ_ x J=>(nomatch J)⟩
 | cons x r=>
  have hM:M∈x::r:=by
   rcases hM with h | h
   .cases h
   .exact h
  show _↔ ∃m',ZP r (some x)=some m';constructor
  .intro h;exact⟨some x,(YL r x (some x)).mpr ⟨λy G=>by rw [h y (19:),h x List.mem_cons_self],rfl⟩⟩
  .rintro⟨m',h⟩ y G;obtain⟨h1,_⟩:=(YL r x m').mp h;have all:∀z∈x::r,z=x:=λz L=>by
    rcases List.mem_cons.mp L with e | e
    .exact e
    .exact h1 z e
   rw [all y G,all M hM]
theorem Jx(w:Nat)(ts:List Tm)(us:List (40:)):ZU w ts us=(gos ts us ⟨none,List.replicate w []⟩).map (·.es):=by
 have key:∀G,ZU w ts us=some G↔ ∃z,gos ts us ⟨none,List.replicate w []⟩=some z/\z.es=G:=λG=>by
  unfold ZU;rw [Xt];constructor
  .rintro⟨a,J,Y,h⟩;have M:a.1=[]\/Zk ts us 0∈a.1:=by
    rcases Uv ts us 0 a J with q | q
    .exact .inl q.1
    .exact .inr q
   obtain⟨Z,U⟩:=(J2 M).mp Y;exact⟨⟨Z,G⟩,(VZ ts us _ _).mpr ⟨a,J,U,h⟩,rfl⟩
  .rintro⟨z,L,rfl⟩;obtain⟨a,J,U,h⟩:=(VZ ts us _ _).mp L;have M:a.1=[]\/Zk ts us 0∈a.1:=by
    rcases Uv ts us 0 a J with q | q
    .exact .inl q.1
    .exact .inr q
   exact⟨a,J,(J2 M).mpr ⟨_,U⟩,h⟩
 cases L:gos ts us ⟨none,List.replicate w []⟩with
 | none=>
  cases hw:ZU w ts us with
  | none=>rfl
  | some G=>
   obtain⟨z,e,_⟩:=(key G).mp hw;rw [L]at e;cases e
 | some z=>exact(key z.es).mpr ⟨z,L,rfl⟩
end K70
namespace K70
open PySem L2 TM TT ST K9 K11
theorem GL{c:Int}{ks:List KdT}{st:Tm}{ms:List MdT}(hW:DWood c ks)(hD:DTurn ks st ms):∀m∈ms,0<m.2.2.2.2.length:=λm G=>by
 obtain⟨J,L,b2,M,Y⟩:=(hD.md m G).ex;obtain⟨r,U,_⟩:=hW.bare J L;rw [M];exact List.length_pos_of_mem U
theorem Zz{K:Fg}{H H':Hp}{d tu wd lm:Addr}{sv:V}{c:Int}{ks:List KdT}{st:Tm}{ms:List MdT}(hW:DWood c ks)(hD:DTurn ks st ms)(g:SameD d H H')(hd:Dk H d)(h:TurnD K H tu wd lm sv ks st ms):TurnD K H' tu wd lm sv ks st ms:=
 TurnD.sameD g hd hW.pos (λk G=>by obtain⟨r,J,_⟩:=hW.bare k G;exact⟨r,J⟩) hD.pos (GL hW hD) h
def US(K:Fg):Sp:=λvs H Q _=>∃(d tu wd lm:Addr)(sv:V)(c:Int)(ks:List KdT)(st:Tm)(ms:List MdT)(k0:KdT),vs=[.ref d,.ref tu]/\Dk H d/\TurnD K H tu wd lm sv ks st ms/\WoodD K H d wd ks/\DWood c ks/\DTurn ks st ms/\ks[0]?=some k0/\
 ∀(v:V)(H':Hp)(T:Tree Str),SameD d H H'->Dk H' d->TrV K H' v T->OfK (QF ks) T k0.2.1->lv T<=3->Q v H'
def Ra:List G3.S:=[.forL 2 (.lst [.k (.int 3),.k (.int 2),.k (.int 1)]) [.set 3 (.call 0 [.v 0,.ix (.v 1) (53:),.ix (.ix (.ix (.v 1) (53:)) (53:)) (53:),.v 2]),.ite (.cmp .Lt (.call 1 [.call 2 [.v 1,.v 3]]) (.k (.int 60))) [.ret (.v 3)] []],.ret (.call 0 [.v 0,.ix (.v 1) (53:),.ix (.ix (.ix (.v 1) (53:)) (53:)) (53:),.k (.int 1)])]
def O8(K:Fg):G3.En:=⟨K,[λ_ vs H Q=>ZV K 3 vs H Q E0,λ_ vs H Q=>U8 K 8 vs H Q E0,λ_ vs H Q=>Uy K 14 vs H Q E0],[],[],[]⟩
section
variable{P:Program}{w:World}{K:Fg}{mg:Str->Option Value}{base:Heap}{f:Addr}{fd:FuncData}
theorem NP:FnScope ["_law_deck","_law_turning_here","_law_deep","_law_tree_here"] ["_law_deck","_law_turning_here"] (defScope Vu):=(1:)
theorem Nq(F:Fun K "_law_small" "_law_small" Vu f fd)(G:Gm mg)(RT:Fn P w K mg base 5 "_law_tree" ["_law_deck","_law_wood_here","_law_kind","_law_deep"] (ZV K 3))(RN:Fn P w K mg base 9 "_law_names_in" ["_law_tree_here"] (U8 K 8))(RO:Fn P w K mg base 18 "_law_outcome" ["_law_turning_here","_law_tree_here"] (Uy K 14)):FnOk P w K mg base CX0 19 f fd ["_law_deck","_law_turning_here"] (US K):=by
 refine G3.Fun.okC F NP (O8 K) Ra (λX c=>⟨.cons (c.fn RT) (.cons (c.fn RN) (.cons (c.fn RO) .nil)),.nil,.nil⟩) (7:) (λH vs Q E h=>?_) G.rng
 .obtain⟨d,tu,wd,lm,sv,c,ks,st,ms,k0,rfl,_⟩:=h
  rfl
 obtain⟨d,tu,wd,lm,sv,c,ks,st,ms,k0,rfl,hd,hT,ad,Y,hD,ab,q⟩:=h;have L:=List.mem_of_getElem? ab;have ae:atI (ks.map λk=>V.ref k.1) (0:Int)=some (.ref k0.1):=QB (j:=0) (by rw [List.getElem?_map,ab];rfl);refine⟨λl H0 g0 e0 n0=>?_⟩;have ag:l≠d:=λz=>by obtain⟨xs,e⟩:=hd;rw [z,e]at n0;cases n0
 have U:=hd.same g0;have af:=hT.same g0;have ac:WoodD K H0 d wd ks:=⟨ad.1.same g0,ad.2⟩;refine .f [.int 3,.int 2,.int 1] (λj σ H'=>∃c2 c3,σ=[some (.ref d),some (.ref tu),c2,c3]/\SameD d H0 H'/\Dk H' d) ⟨none,none,rfl,SameD.refl _ _,U⟩ ?_ ?_ ?_
 .rintro j _ H' _ ⟨c2,c3,rfl,g,_⟩;exact SqL.of (g _ _ ag e0)
 .rintro j x _ H1 M ⟨c2,c3,rfl,g,Z⟩;obtain⟨dp,rfl,h1,h3⟩: ∃dp:Nat,x=.int (dp:Int)/\1<=dp/\dp<=3:=by
   match j,M with
   | 0,M=>cases M;exact⟨3,rfl,by decide,by decide⟩
   | 1,M=>cases M;exact⟨2,rfl,by decide,by decide⟩
   | 2,M=>cases M;exact⟨1,rfl,by decide,by decide⟩
   | j+3,M=>cases M
  have J:=Zz Y hD g U af;refine .t _ _ J.tu rfl<| .t _ _ J.tu rfl<| .l _ _ J.w.1 ae<| .t _ _ (J.w.2 k0 L).1 rfl ⟨d,wd,c,ks,k0,dp,rfl,Z,ac.sameD g U,Y,L,h1,h3,λv H2 T g2 aa hv hO hl=>?_⟩;obtain⟨u,hu,hg⟩:=LV Y hD ab (l:=3) (3:) hO (n:=14) (12:);refine⟨tu,wd,lm,sv,v,ks,st,ms,T,u,rfl,Zz Y hD g2 Z J,Y.ok,hv,hu,λv' H3 g3 ah=>⟨v',u,rfl,ah,hg.lv,λz H4 g4=>G3.iteI (λ_=>?_) λ_=>?_⟩⟩
  .exact q v H4 T ((SameD.of g0).trans (g.trans (g2.trans (SameD.of (g3.trans g4))))) (aa.same (g3.trans g4)) (trS (g3.trans g4) hv) hO (3:)
  .exact⟨_,_,rfl,g.trans (g2.trans (SameD.of (g3.trans g4))),aa.same (g3.trans g4)⟩
 .rintro _ H1 ⟨c2,c3,rfl,g,Z⟩;have J:=Zz Y hD g U af;refine .t _ _ J.tu rfl<| .t _ _ J.tu rfl<| .l _ _ J.w.1 ae<| .t _ _ (J.w.2 k0 L).1 rfl ⟨d,wd,c,ks,k0,1,rfl,Z,ac.sameD g U,Y,L,by decide,by decide,λv H2 T g2 aa hv hO hl=>?_⟩;exact q v H2 T ((SameD.of g0).trans (g.trans g2)) aa hv hO (3:)
end
end K70
namespace K70
open PySem L2 TM TT ST K9 K11
theorem Xk:∀{a b:List Enu},a.Pairwise (λx y=>x.1<y.1)->b.Pairwise (λx y=>x.1<y.1)->(∀z,z∈a↔z∈b)->a=b
 | [],[],_,_,_=>rfl
 | [],y::r,_,_,h=>by have:=(h y).mpr List.mem_cons_self;cases this
 | x::r,[],_,_,h=>by have:=(h x).mp List.mem_cons_self;cases this
 | x::r,y::r',ha,hb,h=>by
  rw [List.pairwise_cons]at ha hb;have J:x=y:=by
   rcases List.mem_cons.mp ((h x).mp List.mem_cons_self)with e | e
   .exact e
   .rcases List.mem_cons.mp ((h y).mpr List.mem_cons_self)with e2 | e2
    .exact e2.symm
    .have:=hb.1 x e;have:=ha.1 y e2;lia
  subst J;rw [Xk ha.2 hb.2 λz=>⟨λG=>?_,λG=>?_⟩]
  .rcases List.mem_cons.mp ((h z).mp (List.mem_cons_of_mem _ G))with e | e
   .have:=ha.1 z G;rw [e]at this;lia
   .exact e
  .rcases List.mem_cons.mp ((h z).mpr (List.mem_cons_of_mem _ G))with e | e
   .have:=hb.1 z G;rw [e]at this;lia
   .exact e
theorem PsOf.eq{e a b:List Enu}(ha:PsOf e a)(hb:PsOf e b):a=b:=Xk ha.up hb.up λz=>(ha.mem z).trans (hb.mem z).symm
def pd(z:Enu):PyData:=.tuple [.int z.1,td z.2]
def wd(kind:Str)(e:List Enu):PyData:=.tuple [.str kind,.list (e.map pd)]
def wds:List Str->List (List Enu)->List PyData
 | k::ks,e::es=>wd k e::wds ks es
 | _,_=>[]
section
variable{K:Fg}{H:Hp}
theorem PsAt.rd:∀{ps:List (Addr×Ent)}{e:List Enu},PsAt K H ps e->RdAll K H (39:) (e.map pd)
 | [],[],_=>.nil
 | [],_::_,h=>by have:=h.m;cases this
 | _::_,[],h=>by have:=h.m;cases this
 | p::ps,z::e,h=>by
  have G:=h.m;rw [List.map_cons,List.map_cons]at G;obtain⟨h1,h2⟩:=List.cons.inj G;obtain⟨a,b⟩:=h.v 0 p z rfl rfl;have h1:p.2.1=z.1:=h1;rw [h1]at a;exact .cons (.tup a (.cons (.int _) (.cons (TrV.rd b) .nil))) (PsAt.rd (ps:=ps) (e:=e) ⟨h2,λk p z a b=>h.v (k+1) p z a b⟩)
theorem WtAt.rd{kind:Str}{e:List Enu}{w:Wt}(h:WtAt K H kind e w):RdV K H (.ref w.1) (wd kind e):=.tup h.t (.cons (.str _) (.cons (.lst (SqL.of h.l) h.p.rd) .nil))
theorem WsAt.rd:∀{ws:List Wt}{kb:List Str}{es:List (List Enu)},WsAt K H kb es ws->RdAll K H (ws.map λw=>V.ref w.1) (wds kb es)
 | [],[],es,_=>by cases es<;>exact .nil
 | [],_::_,_,h=>by have:=h.wl;cases this
 | _::_,[],_,h=>by have:=h.wl;cases this
 | _::_,_::_,[],h=>by have:=h.el;cases this
 | w::ws,k::kb,e::es,h=>.cons (h.at_ 0 w k e rfl rfl rfl).rd (WsAt.rd (ws:=ws) (kb:=kb) (es:=es) ⟨Nat.succ.inj h.wl,Nat.succ.inj h.el,λi w k e a b c=>h.at_ (i+1) w k e a b c⟩)
end
def Xy(l:Nat)(d:PyData):Prop:=d.canLay0=true/\d.depth<=l
theorem XX{l:Nat}:∀{ds:List PyData},(∀d∈ds,Xy l d)->PyData.canLayAll0 ds=true/\PyData.depthAll ds<=l
 | [],_=>⟨rfl,Nat.zero_le _⟩
 | d::r,h=>by
  obtain⟨a,b⟩:=XX (l:=l) (ds:=r) λx G=>h x (19:);obtain⟨c,e⟩:=h d List.mem_cons_self;refine⟨?_,?_⟩
  .simp only [PyData.canLayAll0,Bool.and_eq_true];exact⟨c,a⟩
  .simp only [PyData.depthAll];lia
theorem Xv{l:Nat}{ds:List PyData}(h:∀d∈ds,Xy l d):Xy (l+1) (.tuple ds):=by
 obtain⟨a,b⟩:=XX h;refine⟨by simp only [PyData.canLay0];exact a,?_⟩;simp only [PyData.depth];lia
theorem U0{l:Nat}{ds:List PyData}(h:∀d∈ds,Xy l d):Xy (l+1) (.list ds):=by
 obtain⟨a,b⟩:=XX h;refine⟨by simp only [PyData.canLay0];exact a,?_⟩;simp only [PyData.depth];lia
theorem LR{kind:Str}{e:List Enu}(hk:PyData.strOk kind=true)(h:∀z∈e,GT 50 z.2):Xy 103 (wd kind e):=by
 refine Xv λd hd=>?_;rcases List.mem_cons.mp hd with rfl | hd
 .exact⟨hk,by simp [PyData.depth]⟩
 rcases List.mem_cons.mp hd with rfl | hd
 .refine U0 (l:=101) λd hd=>?_;obtain⟨z,G,rfl⟩:=List.mem_map.mp hd;refine Xv (l:=100) λd hd=>?_;rcases List.mem_cons.mp hd with rfl | hd
  .exact⟨rfl,by simp [PyData.depth]⟩
  rcases List.mem_cons.mp hd with rfl | hd
  .exact⟨(h z G).ok,(h z G).dp⟩
  .cases hd
 .cases hd
theorem Xp:∀{kb:List Str}{es:List (List Enu)},(∀k∈kb,PyData.strOk k=true)->(∀e∈es,∀z∈e,GT 50 z.2)->∀d∈wds kb es,Xy 103 d
 | [],_,_,_,d,h=>by
  have:d∈([]:List PyData):=h;cases this
 | _::_,[],_,_,d,h=>by
  have:d∈([]:List PyData):=h;cases this
 | k::kb,e::es,hk,he,d,h=>by
  rcases List.mem_cons.mp (show d∈wd k e::wds kb es from h)with rfl | h
  .exact LR (hk k List.mem_cons_self) (he e List.mem_cons_self)
  .exact Xp (λk h=>hk k (List.mem_cons_of_mem _ h)) (λe h=>he e (List.mem_cons_of_mem _ h)) d h
end K70
namespace K70
open PySem L2 TM TT ST K9 K11
theorem WtAt.isW{K:Fg}{H:Hp}{kind:Str}{e:List Enu}{w:Wt}(h:WtAt K H kind e w)(hG:∀z∈e,GT 50 z.2):SqT K H w.1 [.str kind,.ref w.2.1]/\SqL K H w.2.1 (w.2.2.map λp=>V.ref p.1)/\∀p∈w.2.2,SqT K H p.1 [.int p.2.1,p.2.2]/\∃u,TrV K H p.2.2 u/\lv u<=50:=by
 refine⟨h.t,SqL.of h.l,λp hp=>?_⟩;obtain⟨i,hi,rfl⟩:=List.getElem_of_mem hp;have G:w.2.2.length=e.length:=by have:=congrArg List.length h.p.m;simpa using this
 obtain⟨a,b⟩:=h.p.v i w.2.2[i] e[i] (24:) (List.getElem?_eq_getElem (3:));exact⟨a,_,b,(hG _ (List.getElem_mem _)).lv⟩
theorem WsAt.same{K:Fg}{H H':Hp}{kb:List Str}{es:List (List Enu)}{ws:List Wt}(g:Same H H')(h:WsAt K H kb es ws):WsAt K H' kb es ws:=⟨h.wl,h.el,λi w k e a b c=>(h.at_ i w k e a b c).same g⟩
def Ui(K:Fg):Sp:=λvs H Q _=>∃(l l2:Addr)(kb:List Str)(es:List (List Enu))(ws ws2:List Wt),vs=[.ref l,.ref l2]/\SqL K H l (ws.map λw=>V.ref w.1)/\SqL K H l2 (ws2.map λw=>V.ref w.1)/\WsAt K H kb es ws/\WsAt K H kb es ws2/\(∀e∈es,∀z∈e,GT 50 z.2)/\(∀k∈kb,PyData.strOk k=true)/\∀H',Same H H'->Q (.bl true) H'
section
variable{P:Program}{w:World}{K:Fg}{mg:Str->Option Value}{base:Heap}{f:Addr}{fd:FuncData}
theorem LN:FnScope ["_law_found","_law_due","_law_want_here"] ["_law_found","_law_due"] (defScope M6):=(1:)
theorem Og(F:Fun K "_law_told" "_law_told" M6 f fd)(G:Gm mg)(RW:Fn P w K mg base 52 "_law_is_want" ["_law_found"] (Nl K 50)):FnOk P w K mg base CX0 53 f fd ["_law_found","_law_due"] (Ui K):=by
 refine F.ok LN (7:) (λae A outer s H vs Q E hr h=>?_)
 .obtain⟨l,l2,J,es,U,ac,rfl,_⟩:=h
  rfl
 obtain⟨l,l2,J,es,U,ac,rfl,L,aa,M,ab,hG,hk,q⟩:=h;refine⟨_,(Qf (QC (PW.pt (pw_or (Zh (QS (Qn J6 rfl G.isi PyProof.Rows.boot_isinstance (Qa (pv 0) (Qa (Zt (v:=.ty "list") rfl G.lst PyProof.Rows.boot_list rfl) Qc))))) (pw_or1 (Qr Ye (Qn Qm rfl G.len PySem.boot_len (Qa (pv 0) Qc)) (Qn Qm rfl G.len PySem.boot_len (Qa (pv 1) Qc)) (Qu _))))) (Qg (Ql ZN)) Qq)
  (Qf (QL PassesOwn.never rfl (QG (pv 0)) (Qt (i:=2) LN.nd rfl (9:)) (Qg (QC (Zh (QS (Qp RW hr (Qa (pv 2) Qc)))) (Qg (Ql ZN)) Qq)))
  (Qg (Ql (ZH Jf (pv 0) (pv 1) (Qu _)))))),?_⟩
 refine⟨_,rfl,l,_,.inl ⟨rfl,L⟩,true,rfl,Zc ?_⟩;refine⟨_,rfl,l,_,rfl,.inl L,_,rfl,l2,_,rfl,.inl aa,rfl,_,rfl,Yh (by rw [List.length_map,List.length_map,M.wl,ab.wl]) ?_⟩;refine⟨_,rfl,l,rfl,⟨_,L⟩,?_⟩;refine Zn (K:=K) (xs:=U.map λw=>V.ref w.1) (λi σ H'=>∃c2:Option V,σ=[some (.ref l),some (.ref l2),c2]/\Same H H') ⟨none,rfl,Same.refl _⟩ ?_ ?_ ?_
 .rintro i σ H' _ ⟨_,_,g⟩;exact g.seq L
 .rintro i y σ H1 Y ⟨c2,rfl,g⟩;have hi:=(List.getElem?_eq_some_iff.mp Y).1;rw [List.length_map]at hi;rw [List.getElem?_map,List.getElem?_eq_getElem hi]at Y;have h1:=M.wl;have h2:=M.el;have hw:=M.at_ i U[i] J[i] es[i] (24:) (List.getElem?_eq_getElem (3:)) (List.getElem?_eq_getElem (3:));have ad:=hG es[i] (List.getElem_mem _);generalize U[i]=w0 at Y hw;cases Y;obtain⟨a,b,c⟩:=(hw.same g).isW ad;refine⟨_,rfl,w0.1,w0.2.1,_,w0.2.2,rfl,a,b,c,λH2 g2=>⟨true,rfl,Zc ⟨_,rfl,g.trans g2⟩⟩⟩
 .rintro σ H1 ⟨c2,rfl,g⟩;have Z:Xy 104 (.list (wds J es)):=U0 (Xp hk hG);refine⟨_,rfl,_,rfl,.list (wds J es),.list (wds J es),.lst (g.seq L) ((M.same g).rd),.lst (g.seq aa) ((ab.same g).rd),Z.1,Z.1,?_,?_⟩
  .have:=Z.2;have:=Nat.min_le_right (PyData.list (wds J es)).depth (PyData.list (wds J es)).depth;have h0:=hr.un;show(A.deeper _).units+_<cLine;lia
  .show Q (.bl (PyData.eqv _ _)) H1;rw [ZA _ Z.1];exact q H1 g
end
end K70
namespace K70
open PySem L2 TM TT ST K9 K11
def Y3(K:Fg):Sp:=λvs H Q _=>∃(kt lt lu:Addr)(kb:List Str)(tvs uvs:List V)(ts:List Tm)(us:List (40:)),vs=[.ref kt,.ref lt,.ref lu]/\(SqT K H kt (kb.map V.str)\/SqL K H kt (kb.map V.str))/\SqL K H lt tvs/\SqL K H lu uvs/\TmAll K H tvs ts/\TrAll K H uvs us/\ts.length=us.length/\ts.length<=10/\kb.length<=10/\(∀t∈ts,lv t<=3/\∃cs:List (Int×Int),TDr cs t/\∀c∈cs,∃k j:Nat,c=((k:Int),(j:Int))/\k<10/\j<kb.length)/\(∀u∈us,GT 50 u)/\
 (ZU kb.length ts us=none->∀H',Same H H'->Q .non H')/\∀es,ZU kb.length ts us=some es->(∀e∈es,EnOk e)->∀l ws es' H',NewW K H kb ⟨none,es⟩ l ws es' H'->Q (.ref l) H'
def YY(K:Fg):Sp:=λvs H Q _=>∃(tu wd lm wa wl:Addr)(sv:V)(ks:List KdT)(st:Tm)(ms:List MdT)(c:Int)(ps:List (Addr×Ent))(e:List Enu)(kd:KdT)(j:Nat)(r:PNx),vs=[.ref tu,.ref wa,.int (j:Int)]/\TurnD K H tu wd lm sv ks st ms/\DWood c ks/\DTurn ks st ms/\GivenE K H ms kd.2.1 wa wl ps e/\kd∈ks/\kd.2.2.2[j]?=some r/\
 (Y8 ms j r.2.2.2.length e=none->∀H',Same H H'->Q .non H')/\∀z,Y8 ms j r.2.2.2.length e=some z->(∀e∈z.es,EnOk e)->∀l ws es' H',NewW K H r.2.2.2 ⟨none,z.es⟩ l ws es' H'->Q (.ref l) H'
theorem NewW.of{K:Fg}{H H1 H':Hp}{kb:List Str}{z:Fs}{l:Addr}{ws:List Wt}{es':List (List Enu)}(g:Same H H1)(h:NewW K H1 kb z l ws es' H'):NewW K H kb z l ws es' H':=
 ⟨g.trans h.g,h.hl,g.back h.nl,λw G=>⟨g.back (h.nw w G).1,(h.nw w G).2⟩,h.w,h.e⟩
theorem TmAll.snoc{K:Fg}{H:Hp}{vs:List V}{ts:List Tm}{v:V}{t:Tm}(h:TmAll K H vs ts)(h2:TmV K H v t):TmAll K H (vs++[v]) (ts++[t]):=TmAll.append h (.cons h2 .nil)
section
variable{P:Program}{w:World}{K:Fg}{mg:Str->Option Value}{base:Heap}{f:Addr}{fd:FuncData}
theorem JE:FnScope ["_law_turning_here","_law_want_here","_law_j","_law_row","_law_terms"] ["_law_turning_here","_law_want_here","_law_j"] (defScope Xn):=(1:)
theorem Lm(F:Fun K "_law_handed_on" "_law_handed_on" Xn f fd)(G:Gm mg)(RR:Fn P w K mg base 1 "_law_rows" ["_law_wood_here","_law_kind"] (Yc K))(RW:Fn P w K mg base 5 "_law_wants" ["_law_kinds","_law_terms","_law_trees"] (Y3 K)):FnOk P w K mg base CX0 6 f fd ["_law_turning_here","_law_want_here","_law_j"] (YY K):=by
 refine F.ok JE (7:) (λa8 A outer s H vs Q E hr h=>?_)
 .obtain⟨tu,wd,lm,wa,wl,sv,ks,st,ms,c,ps,e,kd,j,r,rfl,_⟩:=h
  rfl
 obtain⟨tu,wd,lm,wa,wl,sv,ks,st,ms,c,ps,e,kd,j,r,rfl,hT,hW,hD,J,ae,aa,qn,q⟩:=h;have aw:Room 1 _:=hr.mono (3:);refine⟨_,(Qf (Qo (i:=3) JE.nd rfl (9:) (Qk Qw (Qp RR aw (Qa (25:) (Qa (27:) Qc))) (pv 2) (2:)))
  (Qf (ZO (i:=4) (CompG.many (xs:=["_law_mode","_law_tree_here"]) (caps:=["_law_j","_law_turning_here"]) (cap:=[2,0]) (cs:=[_,_]) rfl rfl (0:) (0:) (0:) (0:) (0:) (0:) rfl rfl rfl) rfl (QG (27:)) (UK (CompG.many (xs:=["_law_mode","_law_tree_here"]) (caps:=["_law_j","_law_turning_here"]) (cap:=[2,0]) (cs:=[_,_]) rfl rfl (0:) (0:) (0:) (0:) (0:) (0:) rfl rfl rfl) rfl) (λ_ _ _ _=>QX) (λ_ _ _ _=>Qk (r:=X5 K) Qw (Qk (r:=JL K) Qj (Qk (r:=X5 K) Qw (Qk (r:=JL K) Qj (pv 3) Qd (2:)) (pv 0) (2:)) Qd (2:)) (pv 2) (2:)) JE.nd rfl rfl)
  (Qg (Ql (Qp RW hr (Qa (Qk Qj (pv 3) Qd (2:)) (Qa (pv 4) (Qa (QK (CompG.many (xs:=["_law_mode","_law_tree_here"]) (caps:=[]) (cap:=[]) (cs:=[]) rfl rfl (0:) (0:) (0:) (0:) (0:) (0:) rfl rfl rfl) rfl (QG (27:)) (UK (CompG.many (xs:=["_law_mode","_law_tree_here"]) (caps:=[]) (cap:=[]) (cs:=[]) rfl rfl (0:) (0:) (0:) (0:) (0:) (0:) rfl rfl rfl) rfl) (λ_ _ _ _=>QX) (λ_ _ _ _=>pv 1)) Qc)))))))),?_⟩
 have a9:ps.length=e.length:=by have:=congrArg List.length J.p.m;simpa using this
 have ag:=J.n;have ah:=(hT.w.2 kd ae).2;refine⟨_,rfl,tu,_,0,_,rfl,rfl,hT.tu,rfl,_,rfl,wa,_,0,_,rfl,rfl,J.t,rfl,wd,ks,kd,rfl,hT.w,hW.ok.nd,hW.ok.len,ae,λH1 g1=>⟨_,rfl,kd.2.2.1,_,(j:Int),.ref r.1,rfl,rfl,g1.seq ah.1,QB (by rw [List.getElem?_map,aa];rfl),?_⟩⟩;have ap:=ah.2 r (List.mem_of_getElem? aa);refine⟨_,rfl,wa,_,1,_,rfl,rfl,g1.seqT J.t,rfl,wl,rfl,⟨_,g1.seq J.l⟩,λacc ai=>?_⟩;have ba:=(hW.ok.rows kd ae).kl r (List.mem_of_getElem? aa);have aq:∀i,i<e.length->∃(k:Nat)(md:MdT)(t:Tm),e[i]?.map (·.1)=some (k:Int)/\ms[k]?=some md/\md.2.2.2.2[j]?=some t/\ZY ms j (k:Int)=t/\lv t<=3/\∃cs:List (Int×Int),TDr cs t/\∀c∈cs,∃k j:Nat,c=((k:Int),(j:Int))/\k<10/\j<r.2.2.2.length:=λi hi=>by
  obtain⟨⟨k,md,a2,a4,a5⟩,a6⟩:=J.k e[i] (List.getElem_mem hi);obtain⟨ax,c1,c2,c3,c4⟩:=(hD.md md (List.mem_of_getElem? a4)).ex;obtain rfl:ax=kd:=Nt hW.ok.nd c1 ae (c2.trans a5);have ay:j<md.2.2.2.2.length:=by rw [c3];exact(List.getElem?_eq_some_iff.mp aa).1
  obtain⟨t,ht⟩: ∃t,md.2.2.2.2[j]?=some t:=⟨_,List.getElem?_eq_getElem ay⟩;obtain⟨av,az⟩:=c4 j r t aa ht;refine⟨k,md,t,by rw [List.getElem?_eq_getElem hi];exact congrArg some a2,a4,ht,?_,az,W0 hD.four av⟩;unfold ZY;rw [Int.toNat_natCast,a4];show(md.2.2.2.2[j]?).getD _=t;rw [ht]
  rfl
 have ao:∀i,i<e.length->ps[i]?.map (λp=>p.2.1)=e[i]?.map (·.1):=λi hi=>by
  rw [<-List.getElem?_map,<-List.getElem?_map,J.p.m]
 refine Y4 (K:=K) (xs:=ps.map λp=>V.ref p.1) (cs:=[some (.int (j:Int)),some (.ref tu)]) (tt:=λ_ H Q=>Q true H) (te:=tOp (X5 K) (tOp (JL K) (tOp (X5 K) (tOp (JL K) (Zo 3) (tC (.int 2))) (Zo 0)) (tC (.int 1))) (Zo 2)) (λi ys H'=>H' acc=some (.lst ys)/\Same H1 H'/\TmAll K H' ys ((e.take i).map λz=>ZY ms j z.1)) ⟨Qb,Qe ai _,.nil⟩ ?_ ?_ ?_
 .rintro i ys H' _ ⟨_,g,_⟩;exact(g1.trans g).seq J.l
 .rintro i x ys H' hi hx ⟨ab,g,ac⟩;have M:i<ps.length:=by rw [List.length_map]at hi;exact hi
  have L:i<e.length:=by lia
  rw [List.getElem?_map,List.getElem?_eq_getElem M]at hx;obtain⟨k,md,t,b1,b2,b3,b4,_⟩:=aq i L;have hm:=ao i L;rw [b1,List.getElem?_eq_getElem M]at hm;have gg:=g1.trans g;have U:=((J.same gg).p.v i ps[i] e[i] (List.getElem?_eq_getElem M) (List.getElem?_eq_getElem L)).1;have hm:ps[i].2.1=(k:Int):=Option.some.inj hm;have ei:e[i].1=(k:Int):=by
   rw [List.getElem?_eq_getElem L]at b1;exact Option.some.inj b1
  generalize ps[i]=p at hx U hm;cases hx;rw [hm]at U;have aj:=(hT.m.same gg).2 md (List.mem_of_getElem? b2);obtain⟨tv,a0,a1⟩:=aj.2.2.get b3;refine⟨p.1,_,_,rfl,U,QU ⟨_,rfl,tu,_,2,_,rfl,rfl,gg.seqT hT.tu,rfl,_,rfl,lm,_,(k:Int),.ref md.1,rfl,rfl,gg.seq hT.m.1,QB (by rw [List.getElem?_map,b2];rfl),md.1,_,1,_,rfl,rfl,aj.1,rfl,_,rfl,md.2.2.1,_,(j:Int),tv,rfl,rfl,aj.2.1,QB a0,?_⟩⟩;have ak:=ac.length;rw [List.length_map,List.length_take]at ak;refine Qv hi ab (3:) ⟨Qb,λb o eb=>?_,?_⟩
  .rw [Qh (Qi eb ai)];exact g _ _ eb
  .rw [List.take_succ,List.getElem?_eq_getElem L,List.map_append];refine TmAll.snoc (ac.mono λ_ _ h=>h.put ab) ?_;show TmV K _ tv (ZY ms j e[i].1);rw [ei,b4];exact a1.mono λ_ _ h=>h.put ab
 rintro ys H2 ⟨ab,g2,ac⟩;rw [List.length_map,List.take_of_length_le (3:)]at ac;have Y:=g1.trans g2;refine⟨_,rfl,r.1,_,1,_,rfl,rfl,Y.seqT ap.1,rfl,_,rfl,_,rfl,wa,_,1,_,rfl,rfl,Y.seqT J.t,rfl,wl,rfl,⟨_,Y.seq J.l⟩,λal af=>?_⟩;refine Y4 (K:=K) (xs:=ps.map λp=>V.ref p.1) (cs:=[]) (tt:=λ_ H Q=>Q true H) (te:=Zo 1) (λi ys H'=>H' al=some (.lst ys)/\Same H2 H'/\TrAll K H' ys ((e.take i).map (·.2))) ⟨Qb,Qe af _,.nil⟩ ?_ ?_ ?_
 .rintro i ys H' _ ⟨_,g,_⟩;exact(Y.trans g).seq J.l
 .rintro i x ys H' hi hx ⟨ad,g,am⟩;have M:i<ps.length:=by rw [List.length_map]at hi;exact hi
  have L:i<e.length:=by lia
  rw [List.getElem?_map,List.getElem?_eq_getElem M]at hx;have gg:=Y.trans g;obtain⟨U,ar⟩:=(J.same gg).p.v i ps[i] e[i] (List.getElem?_eq_getElem M) (List.getElem?_eq_getElem L);generalize ps[i]=p at hx U ar;cases hx;refine⟨p.1,_,_,rfl,U,QU ⟨_,rfl,?_⟩⟩;have ak:=am.length;rw [List.length_map,List.length_take]at ak;refine Qv hi ad (3:) ⟨Qb,λb o eb=>?_,?_⟩
  .rw [Qh (Qi eb af)];exact g _ _ eb
  .rw [List.take_succ,List.getElem?_eq_getElem L,List.map_append];exact TrAll.append (am.mono λ_ _ h=>h.put ad) (.cons (ar.mono λ_ _ h=>h.put ad) .nil)
 rintro zs H3 ⟨a3,g3,as⟩;rw [List.length_map,List.take_of_length_le (3:)]at as;have an:=Y.trans g3;have au:=Jx r.2.2.2.length (e.map λz=>ZY ms j z.1) (e.map (·.2));refine⟨r.2.2.1,acc,al,r.2.2.2,ys,zs,_,_,rfl,.inl (an.seqT ap.2),SqL.of (g3 _ _ ab),SqL.of a3,ac.mono λ_ _=>g3.seqT,as,by rw [List.length_map,List.length_map],by rw [List.length_map];exact ag,by lia,λt ht=>?_,λu hu=>?_,λhn H4 g4=>?_,λes he ag l ws a7 H4 hN=>?_⟩
 .obtain⟨z,Z,rfl⟩:=List.mem_map.mp ht;obtain⟨i,hi,rfl⟩:=List.getElem_of_mem Z;obtain⟨k,md,t,b1,b2,b3,b4,b5,b6⟩:=aq i hi;rw [List.getElem?_eq_getElem hi]at b1;have b1:e[i].1=(k:Int):=Option.some.inj b1;show lv (ZY ms j e[i].1)<=3/\∃cs:List (Int×Int),TDr cs (ZY ms j e[i].1)/\_;rw [b1,b4];exact⟨b5,b6⟩
 .obtain⟨z,Z,rfl⟩:=List.mem_map.mp hu;exact(J.k z Z).2
 .rw [au]at hn;refine qn ?_ H4 (an.trans g4);unfold Y8;cases Z:gos (e.map λz=>ZY ms j z.1) (e.map (·.2)) ⟨none,List.replicate r.2.2.2.length []⟩with
  | none=>rfl
  | some z=>rw [Z]at hn;cases hn
 .rw [au]at he;cases Z:gos (e.map λz=>ZY ms j z.1) (e.map (·.2)) ⟨none,List.replicate r.2.2.2.length []⟩with
  | none=>rw [Z]at he;cases he
  | some z=>
   rw [Z]at he;obtain rfl:z.es=es:=by simpa using he
   exact q z Z ag l ws a7 H4 (hN.of an)
end
end K70
namespace K70
open PySem L2 TM TT ST K9 K11
mutual
noncomputable def Wd(w:Nat):Tree Str->Prop
 | .node _ _ bs=>bs.length<=w/\WdL w bs
noncomputable def WdL(w:Nat):List (40:)->Prop
 | []=>True
 | b::r=>Wd w b/\WdL w r
end
theorem Wa{w:Nat}:∀(bs:List (40:)),WdL w bs↔ ∀b∈bs,Wd w b
 | []=>⟨λ_ b J=>(nomatch J),λ_=>by rw [WdL];trivial⟩
 | b::r=>by
  rw [WdL,Wa r];exact⟨λh x G=>by
   rcases List.mem_cons.mp G with e | e
   .rw [e];exact h.1
   .exact h.2 x e,λh=>⟨h b List.mem_cons_self,λx G=>h x (19:)⟩⟩
theorem GT.kid{l:Nat}{n:Str}{m:Int}{us:List (40:)}(h:GT (l+1) (.node n m us)):∀u∈us,GT l u:=by
 have J:∀us:List (40:),∀u∈us,(td u).depth<=PyData.depthAll (tds us):=λus=>by
  induction us with
  | nil=>intro u G;cases G
  | cons a r L=>
   intro u G;simp only [tds,PyData.depthAll];rcases List.mem_cons.mp G with z | z
   .rw [z];lia
   .have:=L u z;lia
 intro u G;have h1:=h.bs u G;have h2:=h.dp;have M:=h.lv;simp only [td,PyData.depth,PyData.depthAll]at h2;rw [Q4]at M;have:=J us u G;have:=Yg G;have e:lvs (Tree.bs (.node n m us))=lvs us:=rfl;exact⟨by lia,h1.ok,by lia⟩
theorem GT.name{l:Nat}{n:Str}{m:Int}{us:List (40:)}(h:GT l (.node n m us)):PyData.strOk n=true:=by
 have h1:=h.ok;simp only [td,PyData.canLay0,PyData.canLayAll0,Bool.and_eq_true]at h1;exact h1.1
theorem GT.pos{l:Nat}{u:Tree Str}(h:GT l u):∃k,l=k+1:=by
 have:=h.lv;rw [Q4]at this;exact⟨l-1,by lia⟩
theorem XJ{c:Int}{ks:List KdT}{st:Tm}{ms:List MdT}(hD:DTurn ks st ms)(hW:DWood c ks):∀n:Nat,(∀m T u,MM ks ms n m T u->Wd 3 u)/\∀(t:Tm) T u (cs:List (Int×Int)),TDr cs t->MB ks ms n t T u->Wd 3 u
 | 0=>⟨λm T u h=>by rw [MM]at h;exact h.elim,λt T u cs _ h=>by rw [MB]at h;exact h.elim⟩
 | n+1=>by
  obtain⟨i1,i2⟩:=XJ hD hW n;refine⟨λm T u h=>?_,λt T u cs G h=>?_⟩
  .rw [MM]at h;obtain⟨md,kd,j,r,t,h0,hm,hk,e1,e2,hr,_,G,hB⟩:=h;obtain⟨Y,c1,c2,c3,c4⟩:=(hD.md md (List.mem_of_getElem? hm)).ex;obtain rfl:Y=kd:=Nt hW.ok.nd c1 hk (c2.trans e1.symm);obtain⟨⟨cs,_,Z⟩,_⟩:=c4 j r t hr G;exact i2 t T u cs Z hB
  .rw [MB]at h;cases U:lab t with
   | call m b=>
    rw [U]at h;obtain⟨x,_,_,hM⟩:=h;exact i1 m x u hM
   | put nm k ad=>
    rw [U]at h;obtain⟨J,rfl,L,hu⟩:=h;obtain⟨lb,z,bs⟩:=t;obtain rfl:lb=.put nm k ad:=U;rw [TDr]at G;have L:J.length=bs.length:=L;rw [Wd];refine⟨by lia,(Wa J).mpr λq hq=>?_⟩;obtain⟨i,hi,rfl⟩:=List.getElem_of_mem hq;have M:i<bs.length:=by lia
    exact i2 bs[i] T J[i] cs ((Ze cs bs).mp G.2.2 _ (List.getElem_mem M)) (hu i bs[i] J[i] (List.getElem?_eq_getElem M) (24:))
end K70
namespace L2
open PySem PySem.Spec PyProof.Rows HT
section
variable{prog:Program}{w:World}{A:Around}{E:Value->Shared->Prop}{s:Shared}
theorem Y7{t sl:Addr}{items:Array Value}{vl vu:Value}{lo hi:Option Int}{Q:Value->Shared->Prop}(ht:IsTup s.heap t items)(hs:s.heap.IsSliceOf sl vl vu .none)(pl:IsPart vl lo)(pu:IsPart vu hi)
 (hw:sIx items.size 0 lo=0/\sIx items.size items.size hi=items.size) (h:Q (.ref t) s):wpAny (15:) A (getItem (.ref t) (.ref sl)) Q E s:=by
 obtain⟨U,J,L,Y⟩:=id hs;have M:s.TypeIs (.ref sl) "slice":=⟨U,J,L⟩;unfold getItem
 try with_reducible refine wpAny_holding ?_
 first | refine wpAny_bind (wpAny_pure ?_) | skip
 refine wpAny_bind (wpAny_sequenceKey ht.typeIs (12:) ?_);refine wpAny_bind (wpAny_callSpecial?_slot (name:=Str.ofString "__getitem__") ht.typeIs PyProof.Rows.slot_tuple_getitem
  (wpAny_call_entry PyProof.Rows.slot_tuple_getitem ht.typeIs entry_tuple_getitem ?_ (args_tuple_getitem _ _)))
 show wpAny _ _ (Builtin.Tuple.tupleItemsOf (.ref t)>>=_) _ _ s;refine wpAny_bind (tupleItemsOf_ ht ?_);refine wpAny_bind (wpAny_typeOf M ?_);rw [if_pos (12:)];refine wpAny_bind (ZX hs pl pu ?_);have G:((20:)=true):=by
  rw [hw.1,hw.2];simp
 show wpAny _ _ (if(20:)=true then _ else _) _ _ s;rw [if_pos G]
 first
  | refine wpAny_bind (m:=Builtin.Tuple.tupleIsExact _) (wpAny_bind (wpAny_typeOf ht.typeIs (wpAny_pure ?_)))
  | refine wpAny_bind (wpAny_bind (m:=Builtin.Tuple.tupleIsExact _) (wpAny_bind (wpAny_typeOf ht.typeIs (wpAny_pure ?_))))
 rw [if_pos (12:)];exact wpAny_bind (wpAny_rule (wpAny_pure ⟨_,rfl,wpAny_pure h⟩))
end
section
variable{X:Cx}
def PZ(K:Fg):V->Option Int->Option Int->Hp->VK->Prop:=λx lo hi H Q=>∃a xs,x=.ref a/\SqT K H a xs/\∀p H',Same H H'->SqT K H' p (Y0 xs lo hi)->Q (.ref p) H'
theorem Gn:SlR X (PZ X.K):=by
 intro pins s σ H x v vl vu lo hi sl Q I M U pl Y h;obtain⟨a,xs,rfl,J,q⟩:=h
 by_cases G:HT.sIx xs.length 0 lo=0/\HT.sIx xs.length xs.length hi=xs.length
 .cases M;obtain⟨its,r,Z,hz⟩:=I.tuple J;have L:its.toArray.size=xs.length:=by rw [List.size_toArray];exact r.length.symm
  refine⟨"tuple",_,PyProof.Rows.slot_tuple_getitem.lookup,Z.typeIs,?_⟩;refine Y7 Z U pl Y (by rw [L];exact G) ⟨.ref a,H,I,rfl,q a H (Same.refl _) ?_⟩;have e:Y0 xs lo hi=xs:=by
   unfold Y0;rw [G.1,G.2,List.drop_zero,Nat.sub_zero,List.take_length]
  rw [e];exact J
 .exact Px pins s σ H _ v vl vu lo hi sl Q I M U pl Y ⟨a,xs,rfl,J,G,λp hp=>q p _ (Qe hp _) (SqT.of Qb)⟩
end
end L2
namespace K70
open PySem L2 TM TT ST K9 K11
def Lz:R2:=λx y H Q=>match x,y with
 | .int i,.int j=>G3.Cnd (Sm i j) (Q (.int (i^j.toNat)) H)
 | _,_=>False
theorem WQ(X:Cx):G3.NodeOk X (G3.shBin .Pow) (G3.on2 Lz):=.bin λpins s σ H x y v u Q I G J h=>by
 unfold Lz at h;split at h
 .exact Jn pins s σ H _ _ v u Q I G J ⟨_,_,rfl,rfl,h.h,h.k⟩
 .exact h.elim
theorem TrAll.cut{K:Fg}{H:Hp}{vs:List V}{ts:List (40:)}(h:TrAll K H vs ts)(lo hi:Option Int):∃ts',TrAll K H (Y0 vs lo hi) ts'/\∀u∈ts',u∈ts:=by
 have L:∀(i:Nat){vs:List V}{ts:List (40:)},TrAll K H vs ts->TrAll K H (vs.drop i) (ts.drop i):=λi=>by
  induction i with
  | zero=>exact λh=>h
  | succ i G=>
   intro vs ts h;cases h with
   | nil=>exact .nil
   | cons _ h=>exact G h
 have tk:∀(i:Nat){vs:List V}{ts:List (40:)},TrAll K H vs ts->TrAll K H (vs.take i) (ts.take i):=λi=>by
  induction i with
  | zero=>exact λ_=>.nil
  | succ i G=>
   intro vs ts h;cases h with
   | nil=>exact .nil
   | cons a h=>exact .cons a (G h)
 unfold Y0
 first
  | exact⟨_,L _ (tk _ h),λu J=>List.mem_of_mem_take (List.mem_of_mem_drop J)⟩
  | exact⟨_,tk _ (L _ h),λu J=>List.mem_of_mem_drop (List.mem_of_mem_take J)⟩
def O0(K:Fg):List V->Hp->VK->Prop:=G3.on2 λx y H Q=>G3.asI y λi=>PZ K x none (some i) H Q
def Gu(K:Fg):List V->Hp->VK->Prop:=G3.on2 λx y H Q=>G3.asI y λi=>PZ K x (some i) none H Q
def LX:List G3.S:=[.cut (.ite (.an (.nd 0 [.ix (.v 2) (.k (.int 2)),.tup []]) (.cmp .Gt (.call 0 [.v 0,.k (.int 3)]) (53:))) [
 .set 3 (.call 0 [.v 0,.call 1 [.ix (.v 2) (.k (.int 2))]]),
 .set 4 (.call 2 [.v 0,.v 1,.ix (.ix (.v 2) (.k (.int 2))) (.v 3)]),
 .ret (.tup [.ix (.v 2) (53:),.ix (.v 2) (.k (.int 1)),.bin .Add (.bin .Add (.nd 1 [.ix (.v 2) (.k (.int 2)),.v 3]) (.tup [.v 4])) (.nd 2 [.ix (.v 2) (.k (.int 2)),.bin .Add (.v 3) (.k (.int 1))])])] []),
 .set 5 (.call 0 [.v 0,.k (.int 5)]),
 .ite (.cmp .Eq (.v 5) (53:)) [.ret (.tup [.call 3 [.v 1,.bin .Add (.k (.int 3)) (.call 0 [.v 0,.k (.int 4)])],.ix (.v 2) (.k (.int 1)),.ix (.v 2) (.k (.int 2))])] [],
 .ite (.cmp .Eq (.v 5) (.k (.int 1))) [.ret (.tup [.ix (.v 2) (53:),.bin .Add (.bin .Add (.ix (.v 2) (.k (.int 1))) (.k (.int 1))) (.call 0 [.v 0,.nd 3 [.k (.int 10),.k (.int 30)]]),.ix (.v 2) (.k (.int 2))])] [],
 .ite (.cmp .Eq (.v 5) (.k (.int 2))) [.ret (.tup [.ix (.v 2) (53:),.ix (.v 2) (.k (.int 1)),.nd 2 [.ix (.v 2) (.k (.int 2)),.k (.int 1)]])] [],
 .ite (.cmp .Eq (.v 5) (.k (.int 3))) [.ret (.tup [.ix (.v 2) (53:),.ix (.v 2) (.k (.int 1)),.bin .Add (.ix (.v 2) (.k (.int 2))) (.tup [.tup [.call 3 [.v 1,.k (.int 3)],.k (.int 0),.tup []]])])] [],
 .ret (.tup [.ix (.v 2) (53:),.ix (.v 2) (.k (.int 1)),.bin .Add (.nd 2 [.ix (.v 2) (.k (.int 2)),.k (.int 1)]) (.nd 1 [.ix (.v 2) (.k (.int 2)),.k (.int 1)])])]
def Zv(K:Fg)(n:Nat):Sp:=λvs H Q _=>∃(d:Addr)(c:Int)(v:V)(u:Tree Str),vs=[.ref d,.int c,v]/\Dk H d/\TrV K H v u/\Wd 300 u/\lv u<=n/\GT 40 u/\∀(v':V)(u':Tree Str)(H':Hp),SameD d H H'->Dk H' d->TrV K H' v' u'->(∀l,GT l u->GT (l+1) u')->Q v' H'
def PY(K:Fg)(n:Nat):G3.En:=⟨K,[λ_ vs H Q=>QZ vs H Q E0,λ_ vs H Q=>G3.rLen K vs H Q,λ_ vs H Q=>Zv K n vs H Q E0,λ_ vs H Q=>ZC vs H Q E0],[],[G3.on2 (G3.EqD K true),O0 K,Gu K,G3.on2 Lz],[]⟩
section
variable{P:Program}{w:World}{K:Fg}{mg:Str->Option Value}{base:Heap}{f:Addr}{fd:FuncData}
theorem Of:FnScope ["_law_deck","_law_code","_law_tree_here","_law_k","_law_inner","_law_way"] ["_law_deck","_law_code","_law_tree_here"] (defScope YR):=(1:)
theorem Lx:G3.chS ⟨["_law_deck","_law_code","_law_tree_here","_law_k","_law_inner","_law_way"],defScope YR,["_law_draw","len","_law_spoiled","_law_name"],[],[G3.shCmp .NotEq,G3.shSlTo,G3.shSlFrom,G3.shBin .Pow],[]⟩ LX (defBody YR)=true:=by decide+kernel
end
end K70
namespace K70
open PySem L2 TM TT ST K9 K11
section
variable{P:Program}{w:World}{K:Fg}{mg:Str->Option Value}{base:Heap}{f:Addr}{fd:FuncData}
theorem No{n:Nat}(F:Fun K "_law_spoiled" "_law_spoiled" YR f fd)(G:Gm mg)(RD:Fn P w K mg base 1 "_law_draw" ["_law_deck","_law_most"] QZ)(RN:Fn P w K mg base 1 "_law_name" ["_law_code","_law_k"] ZC)(R:Fn P w K mg base (n+1) "_law_spoiled" ["_law_deck","_law_code","_law_tree_here"] (Zv K n)):FnOk P w K mg base CX0 (n+2) f fd ["_law_deck","_law_code","_law_tree_here"] (Zv K (n+1)):=by
 refine G3.Fun.okC (k:=n+1) F Of (PY K n) LX (fn:=["_law_draw","len","_law_spoiled","_law_name"]) (mt:=[]) (nk:=[G3.shCmp .NotEq,G3.shSlTo,G3.shSlFrom,G3.shBin .Pow]) (λX c=>⟨.cons (c.fn RD (3:)) (.cons (c.blt G3.call_len G.len PySem.boot_len) (.cons (c.fn R (5:)) (.cons (c.fn RN (3:)) .nil))),.nil,.cons c.neD (.cons (c.node (r:=O0) λX=>.slTo Gn) (.cons (c.node (r:=Gu) λX=>.slFrom Gn) (.cons (c.node (r:=λ_=>G3.on2 Lz) WQ) .nil)))⟩) (7:) (λH vs Q E h=>?_) G.rng Lx
 .obtain⟨d,c,v,u,rfl,_⟩:=h
  rfl
 obtain⟨d,c,v,u,rfl,J,hv,hw,Z,hg,q⟩:=h;obtain⟨nm,mk,us⟩:=u;cases hv with
 | @mk a b vs _ _ _ h1 h2 h3 h4=>
 rw [Wd]at hw;have ak:vs.length=us.length:=h3.length;have fin:∀{H':Hp}{n':Str}{m':Int}{zs:List V}{al:List (40:)}{p pb:Addr},SameD d H H'->Dk H' d->SqT K H' p [.str n',.int m',.ref pb]->SqT K H' pb zs->TrAll K H' zs al->zs.length<=1000->PyData.strOk n'=true->(∀l,(∀u∈us,GT l u)->∀u∈al,GT (l+1) u)->Q (.ref p) H':=λg an t1 t2 t3 t4 hn hG=>by
  refine q _ _ _ g an (.mk t1 t2 t3 t4) λl Z=>?_;obtain⟨k,rfl⟩:=Z.pos;exact GT.put hn (hG k Z.kid)
 have up:∀l,(∀u∈us,GT l u)->∀u∈us,GT (l+1) u:=λl h u hu=>(h u hu).mono (3:);have aa:=hg.name;refine .c (λao H'=>ao=[some (.ref d),some (.int c),some (.ref a),none,none,none]/\SameD d H H'/\Dk H' d) ?_ ?_
 .refine .t _ _ h1 rfl ⟨λp X k dd _=>.e (.tuple (tds us)) (.tuple []) (.tup (k.seqT h2) (TrAll.rd (h3.mono λ_ _=>k.seqT))) (.tup dd .nil) ?_ rfl ?_ ?_⟩
  .have:=hg.ok;simp only [td,PyData.canLay0,PyData.canLayAll0,Bool.and_eq_true]at this;simp only [PyData.canLay0];exact this.2.2.1
  .exact Nat.le_trans (Nat.min_le_right _ _) (by simp [PyData.depth,PyData.depthAll])
  have am:=J.same k;cases us with
  | nil=>exact⟨rfl,SameD.of k,am⟩
  | cons u0 ur=>
   refine⟨d,3,rfl,am,by decide,λr H1 g1 ac r0 r1=>?_⟩;have gg:=(SameD.of (d:=d) k).trans g1;refine G3.iteI (λ_=>?_) λ_=>⟨rfl,gg,ac⟩;refine .t _ _ (gg.seqT J h1) rfl<| .t _ (gg.seqT J h2) ⟨d,_,rfl,ac,?_,λj H2 g2 Y j0 j1=>?_⟩
   .rw [ak];simp
   have M:=gg.trans g2;obtain⟨jn,rfl⟩: ∃jn:Nat,j=(jn:Int):=⟨j.toNat,by lia⟩;have hj:jn<(u0::ur).length:=by rw [ak]at j1;lia
   obtain⟨x,hx,ap⟩:=h3.get (List.getElem?_eq_getElem hj);have hm:=List.getElem_mem hj;rw [Q4]at Z;have av:=Yg hm;refine .t _ _ (M.seqT J h1) rfl<| .t _ _ (M.seqT J h2) (QB hx) ⟨d,c,x,_,rfl,Y,ap.mono λ_ _ h=>M.seqT J h,(Wa _).mp hw.2 _ hm,by
    have e:lvs (Tree.bs (.node nm mk (u0::ur)))=lvs (u0::ur):=rfl;lia,hg.bs _ hm,λv3 u3 H3 g3 hd3 aq ar=>?_⟩
   have ab:=M.trans g3;refine .t _ _ (ab.seqT J h1) rfl<| .t _ _ (ab.seqT J h1) rfl<| .t _ _ (ab.seqT J h1) rfl ⟨b,vs,rfl,ab.seqT J h2,λp4 H4 g4 e4=>⟨λp5 H5 g5 e5 _=>.a _ _ (g5.seqT e4) e5 ?_ λp6 H6 g6 e6=>?_⟩⟩
   .have:=QE vs none (some (jn:Int));rw [Qz];show _+1<=_;lia
   have ae:=(g4.trans g5).trans g6;have as:=hd3.same ae;have af:=ab.trans (SameD.of ae);refine .t _ _ (af.seqT J h1) rfl ⟨b,vs,rfl,af.seqT J h2,λp7 H7 g7 e7=>.a _ _ (g7.seqT e6) e7 ?_ λp8 H8 g8 e8=>⟨λp9 H9 g9 e9 _=>?_⟩⟩
   .have:=QE vs none (some (jn:Int));have:=QE vs (some ((jn:Int)+1)) none;rw [Qz,List.length_append];show _+1+_<=_;lia
   have ag:=(g7.trans g8).trans g9;have ah:=af.trans (SameD.of ag);obtain⟨t1,a1,b1⟩:=TrAll.cut h3 none (some (jn:Int));obtain⟨t2,a2,b2⟩:=TrAll.cut h3 (some ((jn:Int)+1)) none;refine fin ah (as.same ag) e9 (g9.seqT e8) (TrAll.append (TrAll.append (a1.mono λ_ _ h=>ah.seqT J h) (.cons (aq.mono λ_ _ h=>(ae.trans ag).seqT h) .nil)) (a2.mono λ_ _ h=>ah.seqT J h)) ?_ aa λl Z u hu=>?_
   .have:=QE vs none (some (jn:Int));have:=QE vs (some ((jn:Int)+1)) none;have au:=hw.1;rw [List.length_append,List.length_append];show _+1+_<=_;lia
   .rcases List.mem_append.mp hu with hu | hu
    .rcases List.mem_append.mp hu with hu | hu
     .exact up l Z u (b1 u hu)
     .rw [List.mem_singleton.mp hu];exact ar l (Z _ hm)
    .exact up l Z u (b2 u hu)
 rintro ao H1 ⟨rfl,g1,ac⟩;have au:=hw.1;refine⟨d,5,rfl,ac,by decide,λr H2 g2 Y r0 r1=>?_⟩;have M:=g1.trans g2;have L:=M.seqT J h1;have ad:=M.seqT J h2;have aw:=h3.mono λ_ _ h=>M.seqT J h;refine G3.iteI (λ_=>?_) λ_=>G3.iteI (λ_=>?_) λ_=>G3.iteI (λ_=>?_) λ_=>G3.iteI (λ_=>?_) λ_=>?_
 .refine⟨d,4,rfl,Y,by decide,λr' H3 g3 hd3 _ _=>⟨c,3+r',rfl,?_⟩⟩;refine .t _ _ (g3.seqT Y L) rfl<| .t _ _ (g3.seqT Y L) rfl ⟨λp X k dd _=>?_⟩;have U:=(M.trans g3).trans (SameD.of k);exact fin U (hd3.same k) dd (U.seqT J h2) (h3.mono λ_ _ h=>U.seqT J h) h4 (Z4 _ _) up
 .refine .t _ _ L rfl<| .t _ _ L rfl ⟨⟨by decide,by decide,by decide⟩,⟨d,_,rfl,Y,by decide,λr' H3 g3 hd3 _ _=>.t _ _ (g3.seqT Y L) rfl ⟨λp X k dd _=>?_⟩⟩⟩;have U:=(M.trans g3).trans (SameD.of k);exact fin U (hd3.same k) dd (U.seqT J h2) (h3.mono λ_ _ h=>U.seqT J h) h4 aa up
 .refine .t _ _ L rfl<| .t _ _ L rfl<| .t _ _ L rfl ⟨b,vs,rfl,ad,λp4 H4 g4 e4=>⟨λp X k dd _=>?_⟩⟩;have U:=M.trans (SameD.of (g4.trans k));obtain⟨t1,a1,b1⟩:=TrAll.cut h3 (some 1) none;have:=QE vs (some 1) none;exact fin U (Y.same (g4.trans k)) dd (k.seqT e4) (a1.mono λ_ _ h=>U.seqT J h) (3:) aa λl Z u hu=>up l Z u (b1 u hu)
 .refine .t _ _ L rfl<| .t _ _ L rfl<| .t _ _ L rfl ⟨c,3,rfl,⟨λp3 H3 g3 e3 _=>⟨λp4 H4 g4 e4 _=>⟨λp5 H5 g5 e5 _=>.a _ _ (((g3.trans g4).trans g5).seqT ad) e5 ?_ λp6 H6 g6 e6=>⟨λp X k dd _=>?_⟩⟩⟩⟩⟩
  .rw [Qz];show _+1<=_;lia
  have ai:=(g5.trans g6).trans k;have gA:=(g3.trans g4).trans ai;have U:=M.trans (SameD.of gA);have aj:TrV K X (.ref p4) (.node (nmS c 3) 0 []):=.mk (ai.seqT e4) ((g4.trans ai).seqT e3) .nil (Nat.zero_le _);refine fin U (Y.same gA) dd (k.seqT e6) (TrAll.append (h3.mono λ_ _ h=>U.seqT J h) (.cons aj .nil)) (by rw [List.length_append];show _+1<=_;lia) aa λl Z u hu=>?_;rcases List.mem_append.mp hu with hu | hu
  .exact up l Z u hu
  .rw [List.mem_singleton.mp hu];exact GT.put (Z4 _ _) λu hu=>(nomatch hu)
 .refine .t _ _ L rfl<| .t _ _ L rfl<| .t _ _ L rfl ⟨b,vs,rfl,ad,λp4 H4 g4 e4=>.t _ _ (g4.seqT L) rfl ⟨b,vs,rfl,g4.seqT ad,λp5 H5 g5 e5=>.a _ _ (g5.seqT e4) e5 ?_ λp6 H6 g6 e6=>⟨λp X k dd _=>?_⟩⟩⟩
  .have:=QE vs (some 1) none;have:=QE vs none (some 1);rw [Qz];lia
  have gA:=((g4.trans g5).trans g6).trans k;have U:=M.trans (SameD.of gA);obtain⟨t1,a1,b1⟩:=TrAll.cut h3 (some 1) none;obtain⟨t2,a2,b2⟩:=TrAll.cut h3 none (some 1);have:=QE vs (some 1) none;have:=QE vs none (some 1);refine fin U (Y.same gA) dd (k.seqT e6) (TrAll.append (a1.mono λ_ _ h=>U.seqT J h) (a2.mono λ_ _ h=>U.seqT J h)) (by rw [List.length_append];lia) aa λl Z u hu=>?_;rcases List.mem_append.mp hu with hu | hu
  .exact up l Z u (b1 u hu)
  .exact up l Z u (b2 u hu)
theorem VB{k:Nat}:FnOk P w K mg base CX0 k f fd ["_law_deck","_law_code","_law_tree_here"] (Zv K 0):=by
 have G:∀vs H Q E,¬Zv K 0 vs H Q E:=λvs H Q E h=>by
  obtain⟨d,c,v,u,_,_,_,_,J,_⟩:=h;rw [Q4]at J;lia
 exact⟨λvs H Q E h=>absurd h (G vs H Q E),λA outer s H L M vs Q E _ _ _ _ h=>absurd h (G vs H Q E)⟩
theorem Xi(F:Fun K "_law_spoiled" "_law_spoiled" YR f fd)(G:Gm mg)(RD:Fn P w K mg base 1 "_law_draw" ["_law_deck","_law_most"] QZ)(RN:Fn P w K mg base 1 "_law_name" ["_law_code","_law_k"] ZC)(hb:Binds K fd ["_law_deck","_law_code","_law_tree_here"] [])(hm:mg "_law_spoiled"=some (.ref f)):∀n:Nat,FnOk P w K mg base CX0 (n+1) f fd ["_law_deck","_law_code","_law_tree_here"] (Zv K n)
 | 0=>VB
 | n+1=>No F G RD RN ⟨f,fd,Xi F G RD RN hb hm n,hb,F.kp,hm⟩
end
end K70
namespace L2
open PySem PySem.Spec PyProof.Rows
def Q1(X:Cx)(x:Str)(caps:List Str)(scope:Scope)(cl:List (Str×Addr))(C:Addr)(fp:List Addr)(s₀:Shared)(H₀:Hp):Cx:=
 { X with N:=[x]++caps,s₀:=s₀,H₀:=H₀,env:=compEnvC scope ((x,C+1)::cl) C X.env,outer:=X.stack,ex:=fp,fn:=λy=>y==x,pn:=[],xe:=λ_ _=>False }
structure CompC(X:Cx)(x:Str)(caps:List Str)(cap:List Nat)(scope:Scope)(cl:List (Str×Addr)):Prop where
 clos:closureFor scope X.env=pure cl
 own:∀n acc,cellsFrom n scope.names acc=(x,n)::acc
 push:∀h:Heap,pushCells h scope.names=h.push { cls:=.type "cell",data:=.cell none }
 kind:scope.kind=.function
 names:∀y∈scope.names,y.2=.local->scope.names.lookup y.1=some .local
 lx:(relabel scope X.env).names.lookup x=some .cell
 nd:([x]++caps).Nodup
 out:cl.lookup x=none
 from_:∀y c,cl.lookup y=some c->X.env.cells.lookup y=some c
 has:∀y,((relabel scope X.env).names.lookup y=some .cell\/(relabel scope X.env).names.lookup y=some .free)->∀a:Addr,∃c,((x,a)::cl).lookup y=some c
 hasC:∀(i:Nat)(y:Str),caps[i]?=some y->∃c,cl.lookup y=some c
 len:cap.length=caps.length
 cps:∀(i:Nat)(y:Str),caps[i]?=some y->∃j,cap[i]?=some j/\X.N[j]?=some y/\X.env.scope.names.lookup y=some .cell/\(relabel scope X.env).names.lookup y=some .cell
theorem W4{M:Model}{A:Around}{E:Value->Shared->Prop}{s:Shared}{scope:Scope}{globals:Addr}{cl:List (Str×Addr)}{qual:Str}{env:Env}{Q:Env->Shared->Prop}{x:Str}(hown:∀n acc,cellsFrom n scope.names acc=(x,n)::acc)
 (hpush:∀h:Heap,pushCells h scope.names=h.push { cls:=.type "cell",data:=.cell none })
 (h:Q { scope,locals:=s.heap.objs.size,globals,cells:=(x,s.heap.objs.size+1)::cl,qual,func:=none,code:=env.code,frame:=env.frame,builtins:=env.builtins } { s with heap:=(s.heap.push { cls:=.type "dict",data:=.dict #[] }).push { cls:=.type "cell",data:=.cell none } }):
 wpAny M A (newFunctionEnv scope globals cl [] qual none .none (some env)) Q E s:=by
 simp only [newFunctionEnv,Option.isSome_some,if_true];refine wpAny_bind (wpAny_alloc ?_);refine wpAny_bind (wpAny_layCells _ (λname kind cells=>by cases G:kind==NameKind.cell<;>simp [G]) _ _ _ _ ?_);rw [hown,hpush,List.forIn_nil];refine wpAny_bind (wpAny_pure (wpAny_pure ?_));have e:({ s with heap:=s.heap.push { cls:=.type "dict",data:=.dict #[] } }:Shared).heap.objs.size=s.heap.objs.size+1:=Heap.size_push ..;rw [e];exact h
theorem Va{X:Cx}{elt iter tg:Expr}{x:Str}{ifs:List Expr}{scope:Scope}{pos pos':Pos}{wi:TI}{g:TG}{tt:TT}{te:TE}{cl:List (Str×Addr)}{caps:List Str}{cap:List Nat}
 (O:CompC X x caps cap scope cl) (hc:X.calm=true) (hi:PI X tg iter wi) (hg:∀C fp s₀ H₀,PG (Q1 X x caps scope cl C fp s₀ H₀) tg g)
 (ht:∀C fp s₀ H₀,PF (Q1 X x caps scope cl C fp s₀ H₀) ifs tt) (he:∀C fp s₀ H₀,PE (Q1 X x caps scope cl C fp s₀ H₀) elt te)
 (hs:∀v,foldedSetIterable iter X.env v=pure v) {pins:List (8:)} {s:Shared} {σ:St} {H:Hp} {Q:VK} {use:Option (Value->Sem Unit)} {QQ:Value->Shared->Prop} (I:Inv X pins σ H s)
 (h:YT 1 wi cap g tt te σ H Q)
 (hfin:∀D C H' s',Inv X pins σ H' s'->OwnAt X pins H' s' C->Q (.ref D) H'->compPost (4:) X.A X.xe use QQ (.ref D) C (.ok .next) s'):
 wpAny (4:) X.A (comprehension (14:) scope X.env pos' (newList []) false (eval iter X.env) use) QQ X.xe s:=by
 refine wpAny_comprehension_free rfl hs O.clos O.kind O.names (thn (hi pins s σ H _ I h) λv s1 h1=>thn h1 λbw s2 h2=>?_);obtain⟨it,fp,tn,J,H1,e,I2,T,t0,f2,hR⟩:=h2;subst e;refine wpAny_newObj_type (W4 O.own O.push ?_);have ak:H1 s2.heap.objs.size=none:=I2.fresh;obtain⟨W,⟨m0,w0⟩,al⟩:=hR s2.heap.objs.size ak;have U:Inv X pins σ (upd H1 s2.heap.objs.size (.lst [])) { s2 with heap:=s2.heap.push { cls:=.type "list",data:=.seq ([]:List Value).toArray } }:=I2.lnew (t':=s2.toks) (ys:=[]) (its:=[]) .nil (Nat.zero_le _);generalize am:({ s2 with heap:=s2.heap.push { cls:=.type "list",data:=.seq ([]:List Value).toArray } }:Shared)=G at U ⊢;generalize hD:s2.heap.objs.size=D at U w0 al ak ⊢;generalize bd:upd H1 D (.lst [])=Y at U w0;have aw:((G.heap.push { cls:=.type "dict",data:=.dict #[] }).push { cls:=.type "cell",data:=.cell none }).Ns G.heap.objs.size λ_=>none:=(Heap.Ns.new G.heap (.type "dict")).push _;have Z:∀b o,G.heap.get? b=some o->((G.heap.push { cls:=.type "dict",data:=.dict #[] }).push { cls:=.type "cell",data:=.cell none }).get? b=some o:=λb o e=>Heap.get?_push_of_some _ (Heap.get?_push_of_some _ e);have an:((G.heap.push { cls:=.type "dict",data:=.dict #[] }).push { cls:=.type "cell",data:=.cell none }).IsCell (G.heap.objs.size+1) none:=by
  have e1:G.heap.objs.size+1=(G.heap.push { cls:=.type "dict",data:=.dict #[] }).objs.size:=(Heap.size_push ..).symm;rw [e1];exact⟨_,Heap.get?_push_size _ rfl,rfl⟩
 generalize bx:(G.heap.push { cls:=.type "dict",data:=.dict #[] }).push { cls:=.type "cell",data:=.cell none }=a4 at aw Z an ⊢;have a5:∀b∈fp,Y b=none:=λb L=>by
  rw [<-bd,Qh]
  .exact(f2 b L).1
  .intro z;obtain⟨o,e,_⟩:=T.obj _ _ t0 b L;exact absurd (36:) (by rw [z,hD];exact Nat.lt_irrefl _)
 have aj:Y G.heap.objs.size=none:=U.fresh;have ao:∀b∈fp,b≠G.heap.objs.size:=λb L z=>by
  obtain⟨o,e,_⟩:=T.obj _ _ t0 b L;have h2:G.heap.objs.size=s2.heap.objs.size+1:=by rw [<-am];exact Heap.size_push ..
  exact absurd (36:) (by rw [z,h2];exact Nat.not_lt.mpr (Nat.le_succ _))
 have t3:tn 0 a4:=T.keep _ _ _ t0 λb L o e=>Z b o (by rw [<-am];exact Heap.get?_push_of_some _ e);have ab:∀y c,((x,G.heap.objs.size+1)::cl).lookup y=some c->(y=x/\c=G.heap.objs.size+1)\/(y≠x/\cl.lookup y=some c):=λy c e=>by
  cases hx:y==x with
  | true=>
   simp only [List.lookup_cons,hx]at e;exact .inl ⟨by simpa using hx,(Option.some.inj e).symm⟩
  | false=>
   simp only [List.lookup_cons,hx]at e;exact .inr ⟨by simpa using hx,e⟩
 have ax:∀y c,cl.lookup y=some c->c<G.heap.objs.size:=λy c e=>by
  obtain⟨v,hv⟩:=U.cell y c (O.from_ y c e);exact hv.lt
 have a6:∀b∈fp,b<G.heap.objs.size:=λb L=>by
  obtain⟨o,e,_⟩:=T.obj _ _ t0 b L;have h2:G.heap.objs.size=s2.heap.objs.size+1:=by rw [<-am];exact Heap.size_push ..
  exact Nat.lt_of_lt_of_le (36:) (3:)
 have ap:(23:).Ok:=by
  refine⟨U.ok.mod,O.kind,U.ok.glob,U.ok.blt,Nat.le_refl _,λy z c e1 e2=>?_,λy hy=>O.has y hy _,λy c z e=>?_,U.ok.hd,U.ok.frames,.inl rfl,λb L=>⟨ao b L,λy c e=>?_⟩,U.bs,Nat.le_trans U.ok.bsz U.sz,λb o e L=>?_,λb L z=>?_,U.stack,U.stkFree⟩
  .rcases ab y c e1 with⟨h1,h2⟩ | ⟨h1,h2⟩<;>rcases ab z c e2 with⟨h3,h4⟩ | ⟨h3,h4⟩
   .rw [h1,h3]
   .have q:=ax _ _ h4;rw [h2]at q;exact absurd q (Nat.not_lt.mpr (Nat.le_succ _))
   .have q:=ax _ _ h2;rw [h4]at q;exact absurd q (Nat.not_lt.mpr (Nat.le_succ _))
   .exact U.ok.inj y z c (O.from_ y c h2) (O.from_ z c h4)
  .rcases ab y c e with⟨h1,h2⟩ | ⟨h1,h2⟩
   .show G.heap.objs.size<=c;rw [h2];exact Nat.le_succ _
   .exact absurd (by simpa using(show(y==x)=true from z)) h1
  .rcases ab y c e with⟨h1,h2⟩ | ⟨h1,h2⟩
   .rw [h2];exact λq=>absurd (a6 b L) (q ▸ Nat.not_lt.mpr (Nat.le_succ _))
   .exact(f2 b L).2.2.2.2.1 y c (O.from_ y c h2)
  .rcases(f2 b L).2.2.2.1 with q | q
   .exact U.ok.noex b o e q
   .exact absurd (Nat.lt_of_lt_of_le (36:) (Nat.le_trans U.ok.bsz q)) (Nat.lt_irrefl _)
  .rcases List.mem_cons.mp (U.stkSub b z)with q | q
   .exact(f2 b L).2.1 q
   .exact(f2 b L).2.2.1 q
 have I4:Inv (23:) [] (List.replicate 1 none++Yx cap σ) Y { G with heap:=a4 }:=by
  obtain⟨m,hn,hl⟩:=id U.loc;refine⟨ap,rfl,U.bare,Un.kept Z,⟨_,aw,λi y v e1 e2 e3=>?_⟩,λy c e=>?_,aj,λy c e=>?_,λp hp=>(nomatch hp),U.hok.kept Z,?_⟩
  .by_cases ay:i<1
   .rw [List.getElem?_append_left (by rw [List.length_replicate];exact ay),List.getElem?_replicate,if_pos ay]at e2;cases e2
   .have az:caps[i-1]?=some y:=by
     have a7:([x]++caps)[i]?=some y:=e1
     rwa [List.getElem?_append_right (by show 1<=i;lia)]at a7
    obtain⟨j,hj,hN,hk,be⟩:=O.cps _ y az;have ag:(σ[j]?).getD none=some v:=by
     rw [List.getElem?_append_right (by rw [List.length_replicate];lia),List.length_replicate]at e2;unfold Yx at e2
     simpa [hj]using e2
    have a8:σ[j]?=some (some v):=by
     cases q:σ[j]? with
     | none=>rw [q]at ag;cases ag
     | some a=>rw [q]at ag;exact congrArg some ag
    obtain⟨u,r,l⟩:=hl j y v hN a8 (.inr (.inl hk));refine⟨u,r,?_⟩;rcases l with⟨k,_⟩ | ⟨k,c,e,z⟩
    .have k':X.env.scope.names.lookup y=some .local:=k;rw [hk]at k';cases k'
    .obtain⟨c',ah⟩:=O.hasC _ y az;have:c'=c:=Option.some.inj ((O.from_ y c' ah).symm.trans e);subst this;have bf:(y==x)=false:=by
      cases q:y==x with
      | false=>rfl
      | true=>
       have:y=x:=by simpa using q
       rw [this,O.out]at ah;cases ah
     refine .inr ⟨.inl be,c',(by show List.lookup y ((x,G.heap.objs.size+1)::cl)=some c';simp only [List.lookup_cons,bf];exact ah),?_⟩;obtain⟨o,ho,hd⟩:=z;exact⟨o,Z _ _ ho,hd⟩
  .rcases ab y c e with⟨h1,h2⟩ | ⟨h1,h2⟩
   .rw [h2];exact⟨_,an⟩
   .obtain⟨v,o,ho,hd⟩:=U.cell y c (O.from_ y c h2);exact⟨v,o,Z _ _ ho,hd⟩
  .rcases ab y c e with⟨h1,h2⟩ | ⟨h1,h2⟩
   .rw [h2];exact U.hok.fresh (Nat.le_succ _)
   .exact U.freeC y c (O.from_ y c h2)
  .show(List.replicate 1 none++Yx cap σ).length=([x]++caps).length;simp [Yx,O.len]
 have fin:∀(H':Hp)(bg:St)(s':Shared),Inv (23:) [] bg H' s'->Q (.ref D) H'->
  compPost (4:) X.A X.xe use QQ (.ref D) G.heap.objs.size (.ok .next) s':=λH' bg s' I' q=>by
  obtain⟨m,hn,_⟩:=id I'.loc;have hU:Un (frs X.stack) fp Y H' G.heap s'.heap:=I'.base;have a9:HOk X.prog X.w H' s'.heap:=I'.hok;have bh:s'.os=G.os:=I'.os;have I6:Inv X pins σ H' s':=U.call' (ch:=fp) bh hU a9 I'.bare (λb L=>⟨(f2 b L).2.2.2.1,(f2 b L).2.1,(f2 b L).2.2.2.2⟩);refine hfin D _ H' s' I6 ⟨⟨m,hn⟩,I'.free,Nat.ne_of_gt U.lt,U.sz,λy c e z=>?_,λp hp z=>?_⟩ q
  .obtain⟨v,hv⟩:=U.cell y c e;exact absurd hv.lt (by rw [z];exact Nat.lt_irrefl _)
  .exact absurd (Heap.lt_size (U.pin p hp).1) (by rw [z];exact Nat.lt_irrefl _)
 have af:∀{H':Hp},(∀b∈fp,H' b=none)->∀b∈fp,YH (23:) [] H' b:=λhn b L=>
  ⟨hn b L,ao b L,ap.exfs b L,.inl L,λy c e=>(ap.exf b L).2 y c e,λp hp=>(nomatch hp)⟩
 have aq:codeAny (4:) X.A (.compLoop (14:) 0 (.ref it) (.ref D) (compEnvC scope ((x,G.heap.objs.size+1)::cl) G.heap.objs.size X.env))
  (compPost (4:) X.A X.xe use QQ (.ref D) G.heap.objs.size) { G with heap:=a4 }:=by
  refine codeAny_loop rfl (λn s'=>∃i as H',as.length=1/\Inv (23:) [] (as++Yx cap σ) H' s'/\tn i s'.heap/\(∀b∈fp,H' b=none)/\W i n H') ?_ m0 ⟨0,_,Y,List.length_replicate,I4,t3,a5,w0⟩;rintro n s5 ⟨i,as,H5,bi,I5,a0,a1,w5⟩;show wpAny _ _ ((compTurn (14:) 0 (.ref it) (.ref D) (compEnvC scope ((x,G.heap.objs.size+1)::cl) G.heap.objs.size X.env)).onRaise (λxx=>do noteFrame xx (compEnvC scope ((x,G.heap.objs.size+1)::cl) G.heap.objs.size X.env);theTreesLotGoes xx)) _ _ s5;refine wpAny_noted ?_;rw [compTurn_list];refine wpAny_bind (wpAny_standAt (wpAny_bind ?_));have aa:∀{M:Model}{A:Around}{α:Type}{t:Sem α}{P:α->Shared->Prop}{E':Value->Shared->Prop}{s':Shared},wpAny M A t P (λ_ _=>False) s'->wpAny M A t P E' s':=λh=>wpAny_mono h (λ_ _ q=>q) λ_ _ z=>z.elim;rcases al i n H5 w5 with⟨ba,qn⟩ | ⟨go,step⟩
  .refine aa (thn (T.done (23:) rfl rfl rfl hc i [] s5 _ H5 (λ_ _=>False) I5 (af a1) a0 ba) λr s6 ⟨hr,I6⟩=>?_);subst hr;exact wpAny_pure (fin H5 _ s6 I6 qn)
  .refine aa (thn (T.item (23:) rfl rfl rfl hc i [] s5 _ H5 (λ_ _=>False) I5 (af a1) a0 go) λr s6 ⟨u,hr,h6⟩=>?_);subst hr;refine wpAny_bind (aa (thn h6 λ_ s7 ⟨y,H7,I7,r7,y7,ar,bj⟩=>?_));have bn:=I7.pinned (af bj) (T.obj _ _ ar);have bb:=step y H7 y7 as bi;refine wpAny_bind (aa (thn (hg G.heap.objs.size fp G Y _ s7 _ H7 y _ _ bn r7 bb) λ_ s8 ⟨b0,H8,I8,⟨bs,bo,bv⟩,av⟩=>?_));subst bv;refine wpAny_bind (aa (thn (ht G.heap.objs.size fp G Y _ s8 _ H8 _ I8 av) λbp s9 ⟨H9,I9,q9⟩=>?_));have ai:∀{ac:Hp}{ad:Shared}{m':Nat},Inv (23:) ([]++Us fp s7.heap) (bs++Yx cap σ) ac ad->m'<n->W (i+1) m' ac->
    ∃m,m<n/\∃i as H',as.length=1/\Inv (23:) [] (as++Yx cap σ) H' ad/\tn i ad.heap/\(∀b∈fp,H' b=none)/\W i m H':=λ{ac ad m'} ae hm au=>by
    refine⟨m',hm,i+1,bs,ac,bo,ae.unpinned,T.keep _ _ _ ar λb L o e=>(ae.pin (b,o) (List.mem_append_right _ (List.mem_append_right _ (Zp L e)))).1,λb L=>?_,au⟩;obtain⟨o,e,d⟩:=T.obj _ _ ar b L;exact(ae.pin (b,o) (List.mem_append_right _ (List.mem_append_right _ (Zp L e)))).2.1
   cases bp with
   | false=>
    rw [if_neg Bool.false_ne_true]at q9;obtain⟨m',hm,w9⟩:=q9;exact wpAny_pure ⟨rfl,ai I9 hm w9⟩
   | true=>
    rw [if_pos rfl]at q9;refine wpAny_bind (wpAny_bind (aa (thn (he G.heap.objs.size fp G Y _ s9 _ H9 _ I9 q9) λyv ad ⟨yy,ac,ae,bq,ys,br,bc,m',hm,au⟩=>?_)));refine wpAny_bind (aa (thn (QN (X:=Q1 X x caps scope cl G.heap.objs.size fp G Y) _ ad _ ac (.ref D) [yy] (.ref D) [yv] (λ_ a3=>W (i+1) m' a3) ae rfl (.cons bq .nil) ⟨D,ys,yy,rfl,rfl,br,bc,au⟩) λ_ bz ⟨_,a3,bt,_,bu⟩=>?_));exact wpAny_pure (wpAny_pure ⟨rfl,ai bt hm bu⟩)
 refine codeAny_compStart_list aq (T.self _ 0 _ _ _ t3 aq)
theorem GW{X:Cx}{elt iter tg:Expr}{x:Str}{ifs:List Expr}{scope:Scope}{pos:Pos}{wi:TI}{g:TG}{tt:TT}{te:TE}{cl:List (Str×Addr)}{caps:List Str}{cap:List Nat}
 (O:CompC X x caps cap scope cl) (hc:X.calm=true) (hi:PI X tg iter wi) (hg:∀C fp s₀ H₀,PG (Q1 X x caps scope cl C fp s₀ H₀) tg g)
 (ht:∀C fp s₀ H₀,PF (Q1 X x caps scope cl C fp s₀ H₀) ifs tt) (he:∀C fp s₀ H₀,PE (Q1 X x caps scope cl C fp s₀ H₀) elt te)
 (hs:∀v,foldedSetIterable iter X.env v=pure v:=by intro _;rfl):
 PE X (14:) (YT 1 wi cap g tt te):=by
 intro pins s σ H Q I h;rw [eval_ListComp];exact Va (use:=none) O hc hi hg ht he hs I h λD C H' s' G o q=>by
  obtain⟨m,J⟩:=o.ns;exact⟨m,J,λh' L=>⟨.ref D,H',o.go G L,rfl,q⟩⟩
end L2
namespace L2
open PySem PySem.Spec PyProof.Rows
theorem ZD{env:Env}:∀{names:List (Str×NameKind)}{x:Str},names.lookup x=some .cell->
 (names.map λ(n,k)=>if(48:)then(n,NameKind.cell)else(n,k)).lookup x=some .cell
 | [],_,h=>by simp at h
 | (n,k)::r,x,h=>by
  have J:=@ZD env r x;show List.lookup x ((if(48:)=true then(n,NameKind.cell)else(n,k))::_)=_;cases G:x==n with
  | true=>
   simp only [List.lookup_cons,G]at h;split<;>simp only [List.lookup_cons,G]
   exact h
  | false=>
   simp only [List.lookup_cons,G]at h;split<;>(simp only [List.lookup_cons,G];exact J h)
theorem P0{X:Cx}{x:Str}{caps:List Str}{cap:List Nat}{scope:Scope}{cl:List (Str×Addr)}{px:Pos}(O:CompC X x caps cap scope cl):∀C fp s₀ H₀,PG (Q1 X x caps scope cl C fp s₀ H₀) (.Name x px) (QP 0):=λC fp s₀ H₀=>
 Qt (X:=Q1 X x caps scope cl C fp s₀ H₀) (i:=0) O.nd rfl (.inr O.lx) (.inl (by show(x==x)=true;simp))
theorem CompC.many{X:Cx}{x:Str}{caps:List Str}{cap:List Nat}{cs:List Addr}{scope:Scope}(hk:scope.kind=.function)(hf:X.env.scope.kind=.function)(hfr:Zd scope.names=caps)
 (hown:∀n acc,cellsFrom n scope.names acc=(x,n)::acc) (hpush:∀h:Heap,pushCells h scope.names=h.push { cls:=.type "cell",data:=.cell none }) (hnc:∀z∈scope.names,z.2=.cell->z.1=x) (hl:∀y∈scope.names,y.2=.local->scope.names.lookup y.1=some .local) (hlx:scope.names.lookup x=some .cell) (hnd:([x]++caps).Nodup)
 (hfl:∀y∈caps,scope.names.lookup y=some .free) (hce:caps.map (λy=>X.env.scope.names.lookup y)=caps.map λ_=>some .cell) (hcs:caps.map (λy=>X.env.cells.lookup y)=cs.map some)
 (hN:cap.map (λj=>X.N[j]?)=caps.map some):CompC X x caps cap scope (caps.zip cs).reverse:=by
 have af:caps.length=cs.length:=by simpa using congrArg List.length hcs
 have U:∀(i:Nat)(y:Str),caps[i]?=some y->∃c,cs[i]?=some c/\X.env.cells.lookup y=some c:=λi y h=>by
  have e:=congrArg (λl=>l[i]?) hcs;simp only [List.getElem?_map,h]at e;cases q:cs[i]? with
  | none=>rw [q]at e;simp at e
  | some c=>rw [q]at e;exact⟨c,rfl,by simpa using e⟩
 have Z:∀y∈caps,∃c,(caps.zip cs).reverse.lookup y=some c:=λy G=>by
  obtain⟨i,hi,e⟩:=List.getElem_of_mem G;have aa:i<cs.length:=by lia
  refine YK (c:=cs[i]) ?_;rw [List.mem_reverse];have ac:i<(caps.zip cs).length:=by rw [List.length_zip];lia
  have:=List.getElem_mem ac;rw [List.getElem_zip,e]at this;exact this
 refine⟨Yf hfr hcs,hown,hpush,hk,hl,ZD hlx,hnd,?_,λy c h=>?_,λy h=>?_,λi y h=>Z y (List.mem_of_getElem? h),?_,λi y h=>?_⟩
 .cases q:(caps.zip cs).reverse.lookup x with
  | none=>rfl
  | some c=>
   have G:=Z5 q;rw [List.mem_reverse]at G;have:=(List.of_mem_zip G).1;simp [this]at hnd
 .have G:=Z5 h;rw [List.mem_reverse]at G;obtain⟨i,hi,e⟩:=List.getElem_of_mem G;have ad:i<caps.length:=by rw [List.length_zip]at hi;lia
  have aa:i<cs.length:=by rw [List.length_zip]at hi;lia
  rw [List.getElem_zip]at e;obtain⟨c',e1,M⟩:=U i caps[i] (List.getElem?_eq_getElem ad);have Y:caps[i]=y:=congrArg Prod.fst e;have e4:cs[i]=c:=congrArg Prod.snd e;rw [List.getElem?_eq_getElem aa,e4]at e1;cases e1;rw [<-Y];exact M
 .intro a;cases hx:y==x with
  | true=>exact⟨a,by simp only [List.lookup_cons,hx]⟩
  | false=>
   have ae:y≠x:=by simpa using hx
   have G:y∈caps:=by
    have ab:∀k:NameKind,(k=.cell\/k=.free)->(relabel scope X.env).names.lookup y=some k->y∈caps:=λk hk h=>by
     have h1:=Uu h;obtain⟨z,hz,e⟩:=List.mem_map.mp h1;obtain⟨n,kk⟩:=z;have J:kk=.free/\n=y:=by
      dsimp only at e;split at e
      .rename_i q;simp only [Bool.and_eq_true]at q;exact⟨by simpa using q.1.1,congrArg Prod.fst e⟩
      .have M:kk=k:=congrArg Prod.snd e;have Y:n=y:=congrArg Prod.fst e;refine⟨?_,Y⟩;rcases hk with z | z
       .exact absurd (Y.symm.trans (hnc _ hz (M.trans z))) ae
       .exact M.trans z
     rw [<-hfr];refine List.mem_filterMap.mpr ⟨(n,kk),hz,?_⟩;rw [J.1,J.2];rfl
    rcases h with h | h
    .exact ab _ (.inl rfl) h
    .exact ab _ (.inr rfl) h
   obtain⟨c,hc⟩:=Z y G;exact⟨c,by simp only [List.lookup_cons,hx];exact hc⟩
 .have:=congrArg List.length hN
  simpa using this
 .have e:=congrArg (λl=>l[i]?) hN;simp only [List.getElem?_map,h]at e;have G:=List.mem_of_getElem? h;cases q:cap[i]? with
  | none=>rw [q]at e;simp at e
  | some j=>
   rw [q]at e;have L:X.env.scope.names.lookup y=some .cell:=by
    have M:=congrArg (λl=>l[i]?) hce
    simpa only [List.getElem?_map,h,Option.map_some,Option.some.injEq]using M
   exact⟨j,rfl,by simpa using e,L,Ya hf L (hfl y G)⟩
end L2
namespace L2
open PySem
section
variable{X:Cx}{tg l:Expr}{w1 w2:TI}
def iOr(w1 w2:TI):TI:=λσ H R=>w1 σ H R\/w2 σ H R
theorem SA(h1:PI X tg l w1)(h2:PI X tg l w2):PI X tg l (iOr w1 w2):=λpins s σ H R I h=>h.elim (h1 pins s σ H R I) (h2 pins s σ H R I)
end
theorem MW{X:Cx}{K:Fg}{tg l:Expr}{tl:TE}(hK:X.K=K)(hl:PE X l tl):PI X tg l (Nf K tl):=by
 subst hK;exact QG hl
theorem Pw{K:Fg}{a acc:Addr}{xs:List V}{J:It}{cs:St}{tt:TT}{te:TE}{H1:Hp}{Q:Hp->Prop}(Pv:Nat->List V->Hp->Prop)(hJ:J=Itt K a/\(∀i ys H,i<=xs.length->Pv i ys H->SqT K H a xs)\/J=Itl K a/\∀i ys H,i<=xs.length->Pv i ys H->SqL K H a xs)(h0:Pv 0 [] (upd H1 acc (.lst [])))
 (hs:∀i x ys H,i<xs.length->xs[i]?=some x->Pv i ys H->tt (some x::cs) H (JN xs.length Pv acc i te (some x::cs))) (hd:∀ys H,Pv xs.length ys H->Q H):Z2 J 1 cs (QP 0) tt te H1 acc Q:=by
 rcases hJ with⟨rfl,h⟩ | ⟨rfl,h⟩
 .exact Yn Pv h0 h hs hd
 .exact YB Pv h0 h hs hd
end L2
namespace K70
open PySem L2 TM TT ST K9 K11
theorem Jo{P:Cl->Prop}{g:Tm->Tree Str->Option (List Cl)}:∀(ts:List Tm)(us:List (40:))(acc x:List Cl),(∀t∈ts,∀u∈us,∀x,g t u=some x->∀c∈x,P c)->Q5 g ts us acc=some x->(∀c∈acc,P c)->∀c∈x,P c
 | [],us,acc,x,_,h,G=>by
  rw [Q5]at h
  .cases h;exact G
  .intro _ _ _ _ z;cases z
 | t::ts,[],acc,x,_,h,G=>by
  rw [Q5]at h
  .cases h;exact G
  .intro _ _ _ _ _ z;cases z
 | t::ts,u::us,acc,x,hg,h,G=>by
  rw [Q5]at h;cases e:g t u with
  | none=>rw [e]at h;cases h
  | some y=>
   rw [e]at h;refine Jo ts us (acc++y) x (λt J u L=>hg t (List.mem_cons_of_mem _ J) u (List.mem_cons_of_mem _ L)) h λc M=>?_;rcases List.mem_append.mp M with z | z
   .exact G c z
   .exact hg t List.mem_cons_self u List.mem_cons_self y e c z
theorem U9{mk:Int}{cs:List (Int×Int)}:∀(n:Nat)(t:Tm)(u:Tree Str)(x:List Cl),TDr cs t->GT 50 u->QH mk n t u=some x->∀c∈x,(c.1,c.2.1)∈cs/\GT 50 c.2.2
 | 0,t,u,x,_,_,h=>by rw [QH]at h;cases h
 | n+1,.node (.call m b) z bs,u,x,J,M,h=>by
  rw [QH]at h;cases h;intro c G;rw [List.mem_singleton.mp G];rw [TDr]at J;exact⟨J,M⟩
 | n+1,.node (.put nm k U) z bs,.node un Y L,x,J,M,h=>by
  rw [QH]at h;rw [TDr]at J;have h:(if nm=un/\U+mk*(if k=true then 1 else 0)=Y/\bs.length=L.length then Q5 (QH mk n) bs L []else none)=some x:=h
  by_cases G:nm=un/\U+mk*(if k=true then 1 else 0)=Y/\bs.length=L.length
  .rw [if_pos G]at h;exact Jo bs L [] x (λt h1 u h2 y Z=>U9 n t u y ((Ze cs bs).mp J.2.2 t h1) (M.bs u h2) Z) h λc G=>(nomatch G)
  .rw [if_neg G]at h;cases h
end K70
namespace K70
open PySem L2 TM TT ST K9 K11
theorem EsAt.val{K:Fg}{H:Hp}{m:Int}:∀{ev:List Ent}{e:List Enu},EsAt K H ev e->(ZG (dKv ev) (Sum.inl m)=none/\look e m=none)\/∃v u,ZG (dKv ev) (Sum.inl m)=some v/\look e m=some u/\TrV K H v u
 | [],[],_=>.inl ⟨rfl,rfl⟩
 | [],_::_,h=>by have:=congrArg List.length h.m;cases this
 | _::_,[],h=>by have:=congrArg List.length h.m;cases this
 | a::ev,b::e,h=>by
  have G:=h.m;simp only [List.map_cons,List.cons.injEq]at G;have U:=EsAt.val (m:=m) (ev:=ev) (e:=e) ⟨G.2,λk p z a b=>h.v (k+1) p z a b⟩;have Y:=h.v 0 a b rfl rfl;unfold ZG dKv look at U ⊢;rw [List.map_cons,List.find?_cons,List.find?_cons]
  by_cases J:a.1=m
  .have L:decide ((Sum.inl a.1:Key)=Sum.inl m)=true:=by rw [J];exact decide_eq_true rfl
   have M:decide (b.1=m)=true:=decide_eq_true (by rw [<-G.1];exact J);refine .inr ⟨a.2,b.2,?_,?_,Y⟩
   .simp only [L];rfl
   .simp only [M];rfl
  .have L:decide ((Sum.inl a.1:Key)=Sum.inl m)=false:=decide_eq_false λz=>J (Sum.inl.inj z);have M:decide (b.1=m)=false:=decide_eq_false (by rw [<-G.1];exact J);simp only [L,M];exact U
theorem XQ{k n:Nat}{A:Around}(hr:Room k A)(h:n<=200):A.units+n<cLine:=by
 have:=hr.un;lia
theorem Js{ds:List Addr}{H H1 H2:Hp}(g:Same H H1)(hd:∀d∈ds,H d=none)(t:SameT ds H1 H2):Same H H2:=λb u e=>t b u (λz=>by rw [hd b z]at e;cases e) (g b u e)
section
variable{P:Program}{w:World}{K:Fg}{mg:Str->Option Value}{base:Heap}{f:Addr}{fd:FuncData}
theorem Q8:FnScope ["_law_kinds","_law_terms","_law_trees","_law_mark_here","_law_term_here","_law_tree_here","_law_need_here","_law_tables","_law_calls_here","_law_mode","_law_branch","_law_part"] ["_law_kinds","_law_terms","_law_trees"] (defScope Vx):=(1:)
theorem MY(F:Fun K "_law_wants" "_law_wants" Vx f fd)(G:Gm mg)(RN:Fn P w K mg base 3 "_law_need" ["_law_term_here","_law_tree_here"] (YV K 3))(RS:Fn P w K mg base 3 "_law_stands" ["_law_term_here","_law_tree_here","_law_mark_here"] (ZM K 3)):FnOk P w K mg base CX0 5 f fd ["_law_kinds","_law_terms","_law_trees"] (Y3 K):=by
 refine F.ok Q8 (7:) (λda A outer s H vs Q E hr h=>?_)
 .obtain⟨Z,lt,lu,U,ad,ao,ts,us,rfl,_⟩:=h
  rfl
 obtain⟨Z,lt,lu,U,ad,ao,ts,us,rfl,hk,az,a0,a3,a4,ce,c2,c3,b0,ch,qn,q⟩:=h;have b1:Room 3 _:=hr.mono (3:);refine⟨_,(Qf (Qo (i:=3) Q8.nd rfl (9:) Qd)
  (Qf (QL PassesOwn.never rfl (XR rfl G.zip (Qa (pv 1) (Qa (pv 2) Qc))) (Zs rfl (Qy (Qt (i:=4) Q8.nd rfl (9:)) (Qy (Qt (i:=5) Q8.nd rfl (9:)) Zg))) (Qf (Qo (i:=6) Q8.nd rfl (9:) (Qp RN b1 (Qa (pv 4) (Qa (pv 5) Qc))))
  (Qg (QC (YQ (V2 (pv 6))) (Qg (Qo (i:=3) Q8.nd rfl (9:) (pv 6))) Qq))))
  (Qf (Qo (i:=7) Q8.nd rfl (Or.inr rfl) (QK (CompG.many (xs:=["_law_kind"]) (caps:=[]) (cap:=[]) (cs:=[]) rfl rfl (0:) (0:) (0:) (0:) (0:) (0:) rfl rfl rfl) rfl (SA (Yl (pv 0)) (QG (pv 0))) (Z0 (CompG.many (xs:=["_law_kind"]) (caps:=[]) (cap:=[]) (cs:=[]) rfl rfl (0:) (0:) (0:) (0:) (0:) (0:) rfl rfl rfl)) (λ_ _ _ _=>QX) (λ_ _ _ _=>Wn)))
  (Qf (QL PassesOwn.never rfl (XR rfl G.zip (Qa (pv 1) (Qa (pv 2) Qc))) (Zs rfl (Qy (Qt (i:=4) Q8.nd rfl (9:)) (Qy (Qt (i:=5) Q8.nd rfl (9:)) Zg))) (Qf (Qo (i:=8) Q8.nd rfl (9:) (Qp RS b1 (Qa (pv 4) (Qa (pv 5) (Qa (pv 3) Qc)))))
  (Qf (QC (YQ (Jq (pv 8))) (Qg (Ql Zq)) Qq)
  (Qg (QL PassesOwn.never rfl (QG (pv 8)) (Zs rfl (Qy (Qt (i:=9) Q8.nd rfl (9:)) (Qy (Qt (i:=10) Q8.nd rfl (9:)) (Qy (Qt (i:=11) Q8.nd rfl (9:)) Zg)))) (Qf (QC (Qr Jv (WZ (J1 hr) (Qk Qw (pv 7) (pv 10) (2:)) (pv 9) (pv 11) ⟨rfl,rfl,rfl,rfl⟩) (pv 11) (Qu _)) (Qg (Ql Zq)) Qq)
  (Qg (Oe (J1 hr) (Qk Qw (pv 7) (pv 10) (2:)) (pv 9) (pv 11) rfl))))))))
  (Qg (Ql (GW (CompC.many (x:="_law_k") (caps:=["_law_kinds","_law_tables"]) (cap:=[0,7]) (cs:=[_,_]) rfl rfl (0:) (2:) (λ_=>rfl) (0:) (0:) (0:) (0:) (0:) rfl rfl rfl) rfl (QM rfl G.rng (Qa (Qn Qm rfl G.len PySem.boot_len (Qa (pv 0) Qc)) Qc)) (P0 (CompC.many (x:="_law_k") (caps:=["_law_kinds","_law_tables"]) (cap:=[0,7]) (cs:=[_,_]) rfl rfl (0:) (2:) (λ_=>rfl) (0:) (0:) (0:) (0:) (0:) rfl rfl rfl)) (λ_ _ _ _=>QX) (λ_ _ _ _=>(QD (Qa (Qk (r:=G3.rX K) G3.ix_X (pv 1) (pv 0) (2:)) (Qa (QK (CompG.many (xs:=["_law_mode"]) (caps:=["_law_k","_law_tables"]) (cap:=[0,2]) (cs:=[_,_]) rfl rfl (0:) (0:) (0:) (0:) (0:) (0:) rfl rfl rfl) rfl (MW (K:=K) rfl (Qn (YJ rfl) rfl G.srt PyProof.Rows.boot_sorted (Qa (Qk (r:=X5 K) Qw (pv 2) (pv 0) (2:)) Qc))) (Z0 (CompG.many (xs:=["_law_mode"]) (caps:=["_law_k","_law_tables"]) (cap:=[0,2]) (cs:=[_,_]) rfl rfl (0:) (0:) (0:) (0:) (0:) (0:) rfl rfl rfl)) (λ_ _ _ _=>QX) (λ_ _ _ _=>(QD (Qa (pv 0) (Qa (GB (J1 hr) (Qk (r:=X5 K) Qw (pv 2) (pv 1) (2:)) (pv 0) (2:)) Qc))))) Qc))))))))))),?_⟩
 have b3:ad.length=ao.length:=by rw [a3.length,a4.length];exact ce
 have db:=a3.length;have dc:=a4.length;refine⟨_,rfl,_,rfl,lt,lu,ad,ao,rfl,az,a0,?_⟩;refine Xo (K:=K) (xs:=ad) (ys:=ao) b3 (λi σ H'=>∃(m:Int)(c4 c5 c6:Option V),σ=[some (.ref Z),some (.ref lt),some (.ref lu),some (.int m),c4,c5,c6,none,none,none,none,none]/\Same H H'/\Zk ts us 0=Zk (ts.drop i) (us.drop i) m) ⟨0,none,none,none,rfl,Same.refl _,rfl⟩ ?_ ?_ ?_
 .rintro i σ H' _ ⟨_,_,_,_,_,g,_⟩;exact⟨g.seq az,g.seq a0⟩
 .rintro i u' v' p σ H' as bb hp ⟨m,c4,c5,c6,rfl,g,L⟩;have gp:=Qe hp (.tup [u',v']);have hi:=(List.getElem?_eq_some_iff.mp as).1;obtain⟨c,hc⟩: ∃c,ts[i]?=some c:=(26:);obtain⟨y,hy⟩: ∃y,us[i]?=some y:=(26:);obtain⟨cv,bc,bd⟩:=a3.get hc;obtain rfl:cv=u':=Option.some.inj (bc.symm.trans as);obtain⟨zv,be,bf⟩:=a4.get hy;obtain rfl:zv=v':=Option.some.inj (be.symm.trans bb);have gg:=g.trans gp;have bg:=List.mem_of_getElem? hc;have e1:ts.drop i=c::ts.drop (i+1):=by rw [List.drop_eq_getElem_cons (List.getElem?_eq_some_iff.mp hc).1,(List.getElem?_eq_some_iff.mp hc).2]
  have e2:us.drop i=y::us.drop (i+1):=by rw [List.drop_eq_getElem_cons (50:).1,(50:).2]
  rw [e1,e2,Zk]at L;refine⟨p,_,rfl,SqT.of Qb,rfl,_,_,rfl,_,_,rfl,rfl,?_⟩;refine⟨_,rfl,_,rfl,cv,zv,c,y,rfl,tmS gg bd,trS gg bf,(b0 c bg).1,λH3 g3=>?_⟩;refine⟨_,rfl,_,rfl,?_⟩;cases hx:Z6 3 c y with
  | none=>
   rw [hx]at L;exact Yh rfl ⟨_,_,_,_,rfl,gg.trans g3,L⟩
  | some x=>
   rw [hx]at L;exact UI (λy=>by cases y) ⟨_,rfl,_,_,_,_,rfl,gg.trans g3,L⟩
 rintro σ H1 ⟨mk,c4,c5,c6,rfl,g1,a5⟩;rw [List.drop_of_length_le (show ts.length<=ad.length by lia),List.drop_of_length_le (show us.length<=ad.length by lia)]at a5;have a5:Zk ts us 0=mk:=a5;have hW:ZU U.length ts us=Y5 mk ts us (List.replicate U.length []):=by rw [ZU,a5]
 rw [hW]at q qn;have ci:SqT K H1 Z (U.map V.str)\/SqL K H1 Z (U.map V.str):=hk.imp g1.seqT g1.seq;have b4:∀(J:It),(J=Itt K Z/\SqT K H1 Z (U.map V.str)\/J=Itl K Z/\SqL K H1 Z (U.map V.str))->∀(R:Addr->Hp->Prop),(∀(ln:Addr)(ds:List Addr)(H2:Hp),Same H1 H2->H1 ln=none->(∀d∈ds,H1 d=none)->TabE K H2 U.length (List.replicate U.length []) ln ds->R ln H2)->∀acc,H1 acc=none->Z2 J 1 [] (QP 0) (λ_ H Q=>Q true H) Jg H1 acc (R acc):=λJ hJ R hR acc ae=>by
  refine Pw (K:=K) (a:=Z) (xs:=U.map V.str) (cs:=[]) (tt:=λ_ H Q=>Q true H) (te:=Jg) (λi ys H'=>H' acc=some (.lst ys)/\Same H1 H'/\∃ds:List Addr,ys=ds.map V.ref/\ds.length=i/\ds.Nodup/\(∀d∈ds,H' d=some (.dK []))/\∀d∈ds,H1 d=none) (hJ.imp (λh=>⟨h.1,λi ys H' _ ⟨_,g,_⟩=>g.seqT h.2⟩) λh=>⟨h.1,λi ys H' _ ⟨_,g,_⟩=>g.seq h.2⟩) ⟨Qb,Qe ae _,[],rfl,rfl,List.nodup_nil,λd hd=>(nomatch hd),λd hd=>(nomatch hd)⟩ ?_ ?_
  .rintro i y ys H' hi hy ⟨ah,g,ds,rfl,au,ai,a6,bh⟩;refine QU λd hd=>?_;have gd:=Qe hd (.dK []);have ax:=gd _ _ ah;refine Qv hi ax (by rw [List.length_map]at hi;rw [List.length_map];lia) ⟨Qb,λb u e=>?_,ds++[d],by rw [List.map_append];rfl,by simp [au],?_,λd' bi=>?_,λd' bi=>?_⟩
   .rw [Qh (Qi e ae)];exact gd _ _ (g _ _ e)
   .rw [List.nodup_append];refine⟨ai,by simp,λa ha b hb z=>?_⟩;have cj:b=d:=by simpa using hb
    have:=a6 a ha;rw [z,cj,hd]at this;cases this
   .rcases List.mem_append.mp bi with z | z
    .have:=gd _ _ (a6 d' z);rw [Qh (Q3 this ax (31:))];exact this
    .have hz:d'=d:=by simpa using z
     rw [hz];have:upd H' d (.dK []) d=some (.dK []):=Qb;rw [Qh (Q3 this ax (31:))];exact this
   .rcases List.mem_append.mp bi with z | z
    .exact bh d' z
    .have hz:d'=d:=by simpa using z
     rw [hz];exact g.back hd
  .rintro ys H2 ⟨ah,g2,ds,rfl,au,ai,a6,bh⟩;rw [List.length_map]at au;refine hR acc ds H2 g2 ae bh ⟨ah,au,List.length_replicate,λi d e a b=>?_,ai,λe he=>?_⟩
   .have hb:e=[]:=(List.mem_replicate.mp (List.mem_of_getElem? b)).2;rw [hb];exact⟨[],a6 d (List.mem_of_getElem? a),rfl,λk z y a=>(nomatch a)⟩
   .rw [(List.mem_replicate.mp he).2];exact⟨List.nodup_nil,λz hz=>(nomatch hz),λz hz=>(nomatch hz)⟩
 have rest:∀(R:Addr->Hp->Prop),(∀(ln:Addr)(ds:List Addr)(H2:Hp),Same H1 H2->H1 ln=none->(∀d∈ds,H1 d=none)->TabE K H2 U.length (List.replicate U.length []) ln ds->R ln H2)->iOr (RZ K (Zo 0)) (Nf K (Zo 0)) [some (.ref Z),some (.ref lt),some (.ref lu),some (.int mk),c4,c5,c6,none,none,none,none,none] H1 λJ H2=>∀acc,H2 acc=none->Z2 J 1 [] (QP 0) (λ_ H Q=>Q true H) Jg H2 acc (R acc):=λR hR=>ci.elim (λh=>.inl ⟨_,rfl,Z,rfl,⟨_,h⟩,b4 _ (.inl ⟨rfl,h⟩) R hR⟩) λh=>.inr ⟨_,rfl,Z,rfl,⟨_,h⟩,b4 _ (.inr ⟨rfl,h⟩) R hR⟩;refine rest _ λln ds H2 g2 nl nd T=>?_;have bj:=g1.trans g2;have dd:H ln=none:=g1.back nl;have b5:∀d∈ds,H d=none:=λd hd=>g1.back (nd d hd);refine⟨_,rfl,_,rfl,lt,lu,ad,ao,rfl,bj.seq az,bj.seq a0,?_⟩;refine Xo (K:=K) (xs:=ad) (ys:=ao) b3 (λi σ H'=>∃(c4 c5 c6 c8 c9 al am:Option V)(es:List (List Enu)),σ=[some (.ref Z),some (.ref lt),some (.ref lu),some (.int mk),c4,c5,c6,some (.ref ln),c8,c9,al,am]/\Same H H'/\TabE K H' U.length es ln ds/\Y5 mk ts us (List.replicate U.length [])=Y5 mk (ts.drop i) (us.drop i) es) ⟨_,_,_,none,none,none,none,_,rfl,bj,T,rfl⟩ ?_ ?_ ?_
 .rintro i σ H' _ ⟨_,_,_,_,_,_,_,_,_,g,_⟩;exact⟨g.seq az,g.seq a0⟩
 .rintro i u' v' p σ H' as bb hp ⟨c4,c5,c6,c8,c9,al,am,es,rfl,g,T1,L⟩;have gp:=Qe hp (.tup [u',v']);have hi:=(List.getElem?_eq_some_iff.mp as).1;obtain⟨c,hc⟩: ∃c,ts[i]?=some c:=(26:);obtain⟨y,hy⟩: ∃y,us[i]?=some y:=(26:);obtain⟨cv,bc,bd⟩:=a3.get hc;obtain rfl:cv=u':=Option.some.inj (bc.symm.trans as);obtain⟨zv,be,bf⟩:=a4.get hy;obtain rfl:zv=v':=Option.some.inj (be.symm.trans bb);have gg:=g.trans gp;have bg:=List.mem_of_getElem? hc;have ck:=List.mem_of_getElem? hy;have e1:ts.drop i=c::ts.drop (i+1):=by rw [List.drop_eq_getElem_cons (List.getElem?_eq_some_iff.mp hc).1,(List.getElem?_eq_some_iff.mp hc).2]
  have e2:us.drop i=y::us.drop (i+1):=by rw [List.drop_eq_getElem_cons (50:).1,(50:).2]
  rw [e1,e2,Y5]at L;obtain⟨cm,cs,b6,cn⟩:=b0 c bg;refine⟨p,_,rfl,SqT.of Qb,rfl,_,_,rfl,_,_,rfl,rfl,?_⟩;refine⟨_,rfl,_,rfl,_,rfl,cv,zv,c,y,mk,cs,rfl,tmS gg bd,trS gg bf,cm,b6,by decide,λhs H3 g3=>?_,λx hs l3 qs H3 g3 b7 de b8 df=>?_⟩
  .rw [hs]at L;exact⟨_,rfl,_,rfl,JJ rfl (qn L H3 (gg.trans g3))⟩
  rw [hs]at L;have L:Y5 mk ts us (List.replicate U.length [])=(QO x es).bind (Y5 mk (ts.drop (i+1)) (us.drop (i+1))):=L;have cf:=U9 3 c y x b6 (ch y ck) hs;refine⟨_,rfl,_,rfl,JO (46:) ?_⟩;have T3:=T1.same (gp.trans g3);have b9:=gg.trans g3;have dg:=b8.n;refine⟨_,rfl,l3,rfl,⟨_,SqL.of b7⟩,?_⟩;refine Zn (K:=K) (xs:=qs.map λp=>V.ref p.1) (λk σ H'=>∃(c9 al am:Option V)(M:List (List Enu)),σ=[some (.ref Z),some (.ref lt),some (.ref lu),some (.int mk),some cv,some zv,c6,some (.ref ln),some (.ref l3),c9,al,am]/\SameT ds H3 H'/\TabE K H' U.length M ln ds/\QO x es=QO (x.drop k) M) ⟨_,_,_,es,rfl,SameT.refl _ _,T3,rfl⟩ ?_ ?_ ?_
  .rintro k σ H' _ ⟨_,_,_,_,_,t,_⟩;exact T3.seqL t (SqL.of b7)
  .rintro k xv σ H' af ⟨c9,al,am,M,rfl,t,T2,ac⟩;have hk:=(List.getElem?_eq_some_iff.mp af).1;rw [List.length_map]at hk;rw [List.getElem?_map,List.getElem?_eq_getElem hk]at af;obtain⟨⟨m,b,u⟩,a7⟩: ∃c,x[k]?=some c:=(26:);obtain⟨a1,a2⟩:=b8.v k qs[k] (m,b,u) (List.getElem?_eq_getElem hk) a7;generalize qs[k]=pq at af a1 a2;cases af;obtain⟨pa,pv⟩:=pq;have a1:SqT K H3 pa [.int m,.int b,pv]:=a1;have a2:TrV K H3 pv u:=a2;obtain⟨m1,co⟩:=cf _ (List.mem_of_getElem? a7);obtain⟨mm,j,ej,cg,hj⟩:=cn _ m1;obtain⟨rfl,rfl⟩:m=(mm:Int)/\b=(j:Int):=⟨congrArg Prod.fst ej,congrArg Prod.snd ej⟩;have hG:GT 50 u:=co;have e3:x.drop k=((mm:Int),(j:Int),u)::x.drop (k+1):=by rw [List.drop_eq_getElem_cons (List.getElem?_eq_some_iff.mp a7).1,(List.getElem?_eq_some_iff.mp a7).2]
   rw [e3,QO]at ac;have cp:=T3.seqT t a1;have a8:TrV K H' pv u:=a2.mono λ_ _ h=>T3.seqT t h;refine⟨pa,_,rfl,cp,rfl,_,_,rfl,_,_,rfl,_,_,rfl,rfl,?_⟩;have bn:j<ds.length:=by rw [T2.dl];exact hj
   have a9:j<M.length:=by rw [T2.el];exact hj
   obtain⟨ev,aj,hE⟩:=T2.hd j ds[j] M[j] (List.getElem?_eq_getElem bn) (List.getElem?_eq_getElem a9);have an:atI (ds.map V.ref) (j:Int)=some (.ref ds[j]):=QB (by rw [List.getElem?_map,List.getElem?_eq_getElem bn];rfl);have hO:=T2.en M[j] (List.getElem_mem a9);have aa:addC ((mm:Int),(j:Int),u) M=match look M[j] (mm:Int)with
    | some u'=>if PyData.eqv (td u') (td u)=true then some M else none
    | none=>some (M.set j (M[j]++[((mm:Int),u)])):=by
    unfold addC;show(match look ((M[(j:Int).toNat]?).getD []) (mm:Int)with
     | some u'=>if PyData.eqv (td u') (td u)=true then some M else none
     | none=>some (M.set (j:Int).toNat ((M[(j:Int).toNat]?).getD []++[((mm:Int),u)])))=_
    rw [Int.toNat_natCast,List.getElem?_eq_getElem a9]
    rfl
   refine⟨_,rfl,_,rfl,ln,_,(j:Int),.ref ds[j],rfl,rfl,SqL.of T2.hl,an,ds[j],rfl,.inl ⟨_,.inl aj⟩,_,rfl,_,rfl,_,DGet.k (k:=Sum.inl (mm:Int)) aj,_,rfl,?_⟩;have ca:(td u).depth<=200:=by have:=hG.dp;lia
   have put:∀ba,addC ((mm:Int),(j:Int),u) M=some ba->∃H4,DPut H' ds[j] (.int (mm:Int)) pv H4/\SameT ds H3 H4/\TabE K H4 U.length ba ln ds/\QO x es=QO (x.drop (k+1)) ba:=λba h3=>by
    obtain⟨T4,t4⟩:=T2.put (List.getElem?_eq_getElem bn) (List.getElem?_eq_getElem a9) aj hE a8 hG ⟨mm,rfl,cg⟩ h3;rw [h3]at ac;refine⟨_,DPut.k (k:=Sum.inl (mm:Int)) aj ?_,t.trans t4,T4,ac⟩;have h1:=hO.len;have h2:=congrArg List.length hE.m;unfold dKv;rw [List.length_map,Qz];simp only [List.length_map]at h2;lia
   rcases hE.val (m:=(mm:Int))with⟨v1,v2⟩ | ⟨v,u',v1,v2,v3⟩
   .rw [v1];rw [v2]at aa;refine⟨td u,td u,TrV.rd a8,TrV.rd a8,hG.ok,hG.ok,XQ hr (Nat.le_trans (Nat.min_le_right _ _) ca),_,rfl,?_⟩;rw [ZA _ hG.ok];obtain⟨H4,d4,t4,T4,h4⟩:=put _ aa;exact Zc ⟨_,rfl,_,rfl,_,rfl,ln,_,(j:Int),.ref ds[j],rfl,rfl,SqL.of T2.hl,an,_,rfl,ds[j],H4,rfl,d4,_,_,_,_,rfl,t4,T4,h4⟩
   .rw [v1];rw [v2]at aa;have cq:=hO.gt _ (Wq v2);refine⟨td u',td u,TrV.rd v3,TrV.rd a8,cq.ok,hG.ok,XQ hr (Nat.le_trans (Nat.min_le_right _ _) ca),_,rfl,?_⟩
    by_cases hq:PyData.eqv (td u') (td u)=true
    .have aa:addC ((mm:Int),(j:Int),u) M=some M:=by rw [aa];exact if_pos hq
     rw [hq];obtain⟨H4,d4,t4,T4,h4⟩:=put _ aa;exact Zc ⟨_,rfl,_,rfl,_,rfl,ln,_,(j:Int),.ref ds[j],rfl,rfl,SqL.of T2.hl,an,_,rfl,ds[j],H4,rfl,d4,_,_,_,_,rfl,t4,T4,h4⟩
    .have aa:addC ((mm:Int),(j:Int),u) M=none:=by rw [aa];exact if_neg hq
     rw [aa]at ac;rw [ac]at L;rw [Bool.eq_false_iff.mpr hq];exact QU (qn L H' (Js b9 b5 t))
  .rintro σ H' ⟨c9,al,am,M,rfl,t,T2,ac⟩;rw [List.drop_of_length_le (29:),QO]at ac;rw [ac]at L;exact⟨_,_,_,_,_,_,_,M,rfl,Js b9 b5 t,T2,L⟩
 rintro σ H3 ⟨c4,c5,c6,c8,c9,al,am,es,rfl,g3,T3,L⟩;rw [List.drop_of_length_le (show ts.length<=ad.length by lia),List.drop_of_length_le (show us.length<=ad.length by lia)]at L;have L:Y5 mk ts us (List.replicate U.length [])=some es:=L;have ap:SqT K H3 Z (U.map V.str)\/SqL K H3 Z (U.map V.str):=hk.imp g3.seqT g3.seq;have hn:(((U.map V.str).length:Nat):Int).toNat=U.length:=by rw [List.length_map];rfl
 refine⟨_,rfl,Z,U.map V.str,rfl,ap.elim .inr .inl,_,rfl,by lia,by rw [List.length_map];lia,λacc ae=>?_⟩;refine Yk (lo:=0) (n:=(((U.map V.str).length:Nat):Int).toNat) (cs:=[some (.ref Z),some (.ref ln)]) (tt:=λ_ H Q=>Q true H) (λi ys H'=>H' acc=some (.lst ys)/\Same H3 H'/\∃(ws:List Wt)(ak:List (List Enu)),ys=ws.map (λw=>V.ref w.1)/\ws.length=i/\ak.length=i/\(∀w∈ws,H3 w.2.1=none/\w.2.1≠acc)/\(∀(k:Nat) w kind e',ws[k]?=some w->U[k]?=some kind->ak[k]?=some e'->WtAt K H' kind e' w)/\∀(k:Nat) e e',es[k]?=some e->ak[k]?=some e'->PsOf e e') ⟨Qb,Qe ae _,[],[],rfl,rfl,rfl,λw hw=>(nomatch hw),λk w kind e' a=>(nomatch a),λk e e' _ a=>(nomatch a)⟩ ?_ ?_
 .rintro i ys H' hi ⟨ah,g,ws,ak,rfl,av,aq,aw,bo,bp⟩;rw [hn]at hi;have au:=T3.dl;have c7:=T3.el;have T4:=T3.same g;obtain⟨ev,aj,hE⟩:=T4.hd i ds[i] es[i] (List.getElem?_eq_getElem (3:)) (List.getElem?_eq_getElem (3:));have an:atI (ds.map V.ref) (i:Int)=some (.ref ds[i]):=QB (by rw [List.getElem?_map,List.getElem?_eq_getElem (show i<ds.length by lia)];rfl);have hO:=T4.en es[i] (List.getElem_mem (3:));have ay:atI (U.map V.str) (i:Int)=some (.str U[i]):=QB (by rw [List.getElem?_map,List.getElem?_eq_getElem hi];rfl);have cr:ev.length=es[i].length:=by have:=congrArg List.length hE.m;simpa using this
  have ct:=hO.len;have ai:(ev.map (·.1)).Nodup:=by rw [hE.m];exact hO.nd
  generalize cu:es[i]=e at hE hO cr ct;generalize ds[i]=d at aj an;generalize cw:U[i]=kind at ay;rw [Int.zero_add];refine QU ⟨_,rfl,_,rfl,?_⟩;have cx:∀{Q:VK},Q (.str kind) H'->G3.rX K (.ref Z) (.int (i:Int)) H' Q:=λ{Q} h=>ap.elim (λhq=>.t _ _ (g.seqT hq) ay h) λhq=>.l _ _ (g.seq hq) ay h;refine cx ⟨_,rfl,_,rfl,ln,_,(i:Int),.ref d,rfl,rfl,SqL.of T4.hl,an,d,dKv ev,ev.map (·.1),rfl,aj,by unfold dKv;rw [List.map_map,List.map_map];rfl,by rw [List.length_map];lia,λY p hp hs cy=>⟨p,rfl,⟨_,SqL.of Qb⟩,λab ar=>?_⟩⟩;have gp:=Qe cy (.lst (Y.map V.int));have ep:upd H' p (.lst (Y.map V.int)) p=some (.lst (Y.map V.int)):=Qb;generalize upd H' p (.lst (Y.map V.int))=H5 at gp ep ar;have g5:=g.trans gp;refine YB (K:=K) (xs:=Y.map V.int) (cs:=[some (.int (i:Int)),some (.ref ln)]) (tt:=λ_ H Q=>Q true H) (λk ys H6=>H6 ab=some (.lst ys)/\Same H5 H6/\∃(ps:List (Addr×Ent))(e':List Enu),ys=ps.map (λp=>V.ref p.1)/\PsAt K H6 ps e'/\(∀z∈e',z∈e)/\e'.map (·.1)=Y.take k) ⟨Qb,Qe ar _,[],[],rfl,⟨rfl,λk p z a=>(nomatch a)⟩,λz hz=>(nomatch hz),rfl⟩ ?_ ?_ ?_
  .rintro k ys H6 _ ⟨_,g6,_⟩;exact SqL.of (g6 _ _ ep)
  .rintro k xv ys H6 ag af ⟨bq,g6,ps,e',rfl,h1,h2,h3⟩;rw [List.length_map]at ag;rw [List.getElem?_map,List.getElem?_eq_getElem ag]at af;have af:V.int Y[k]=xv:=Option.some.inj af;subst af;obtain⟨z,hz,ez⟩:=List.mem_map.mp (hp.mem_iff.mp (List.getElem_mem ag));obtain⟨q2,cb,cc⟩:=List.getElem_of_mem hz;have hy:=hE.v q2 z e[q2] (by rw [List.getElem?_eq_getElem cb,cc]) (List.getElem?_eq_getElem (3:));have ey:z.1=e[q2].1:=by
    have a:(ev.map (·.1))[q2]?=(e.map (·.1))[q2]?:=by rw [hE.m]
    rw [List.getElem?_map,List.getElem?_map,List.getElem?_eq_getElem cb,List.getElem?_eq_getElem (show q2<e.length by lia),cc]at a;exact Option.some.inj a
   have br:=Gq ai hz;rw [ez]at br;have bt:=gp.trans g6;have cz:DGet H6 d (.int Y[k]) (some z.2):=by rw [<-br];exact DGet.k (k:=Sum.inl Y[k]) (bt _ _ aj)
   refine QU ⟨_,rfl,_,rfl,_,rfl,ln,_,(i:Int),.ref d,rfl,rfl,SqL.of (bt _ _ T4.hl),an,_,rfl,d,z.2,rfl,cz,(28:),λpt bu=>?_⟩;have gt:=Qe bu (.tup [.int Y[k],z.2]);have dh:ps.length=k:=by
    have a:=congrArg List.length h1.m;have b:=congrArg List.length h3;rw [List.length_map,List.length_map]at a;rw [List.length_map,List.length_take]at b;lia
   have bv:=gt _ _ bq;have ho:Y.length=ev.length:=by rw [hp.length_eq,List.length_map]
   refine Qv (by rw [List.length_map];exact ag) bv (29:) ⟨Qb,λb u eb=>?_,ps++[(pt,z)],e'++[e[q2]],by rw [List.map_append];rfl,?_,λy c0=>?_,?_⟩
   .rw [Qh (Qi eb ar)];exact gt _ _ (g6 _ _ eb)
   .have km:∀a xs,SqT K _ a xs->SqT K (upd _ ab (.lst (ps.map (λp=>V.ref p.1)++[.ref pt]))) a xs:=λa xs h=>SqT.put h bv;refine(h1.mono λa xs h=>km _ _ (gt.seqT h)).snoc ey ?_ (hy.mono λa xs h=>km _ _ (gt.seqT (bt.seqT h)));show SqT K _ pt [.int z.1,z.2];rw [ez];exact km _ _ (SqT.of Qb)
   .rcases List.mem_append.mp c0 with y1 | y1
    .exact h2 y y1
    .rw [List.mem_singleton.mp y1];exact List.getElem_mem _
   .rw [List.map_append,h3,List.take_succ,List.getElem?_eq_getElem ag];show _++[e[q2].1]=_++[Y[k]];rw [<-ey,ez]
  .rintro ys H6 ⟨bq,g6,ps,e',rfl,h1,h2,h3⟩;rw [List.length_map,List.take_of_length_le (5:)]at h3;have c1:PsOf e e':=by
    refine⟨λz=>⟨h2 z,λhz=>?_⟩,?_⟩
    .have:z.1∈e'.map (·.1):=by rw [h3,hp.mem_iff,hE.m];exact List.mem_map_of_mem hz
     obtain⟨y,hy,ey⟩:=List.mem_map.mp this;rw [<-Vq hO.nd (h2 y hy) hz ey];exact hy
    .have ai:Y.Nodup:=hp.nodup_iff.mpr ai;have:(e'.map (·.1)).Pairwise (· <·):=by
      rw [h3];exact(hs.and ai).imp λ{a b} h=>by lia
     exact List.pairwise_map.mp this
   refine⟨(28:),λpt bu=>?_⟩;have gt:=Qe bu (.tup [.str kind,.ref ab]);have bw:upd H6 pt (.tup [.str kind,.ref ab]) pt=some (.tup [.str kind,.ref ab]):=Qb;generalize upd H6 pt (.tup [.str kind,.ref ab])=H7 at gt bw;have bx:=(gp.trans g6).trans gt;have bz:=bx _ _ ah;have km:∀a xs,SqT K H7 a xs->SqT K (upd H7 acc (.lst (ws.map (λw=>V.ref w.1)++[.ref pt]))) a xs:=λa xs h=>SqT.put h bz;have na:ab≠acc:=λz=>by
    rw [z,gp _ _ ah]at ar;cases ar
   refine Qv (by rw [hn];exact hi) bz (29:) ⟨Qb,λb u eb=>?_,ws++[(pt,ab,ps)],ak++[e'],by rw [List.map_append];rfl,by rw [List.length_append,av];rfl,by rw [List.length_append,aq];rfl,λw hw=>?_,λk w kd e2 a b c=>?_,λk e1 e2 a c=>?_⟩
   .rw [Qh (Qi eb ae)];exact bx _ _ (g _ _ eb)
   .rcases List.mem_append.mp hw with z | z
    .exact aw w z
    .rw [List.mem_singleton.mp z];exact⟨(g.trans gp).back ar,na⟩
   .by_cases ag:k<ws.length
    .rw [List.getElem?_append_left ag]at a;rw [List.getElem?_append_left (3:)]at c;have h:=(bo k w kd e2 a b c).same bx;refine⟨km _ _ h.t,?_,h.p.mono km⟩;rw [Qh (aw w (List.mem_of_getElem? a)).2];exact h.l
    .have ap:k=i:=by
      have:=(List.getElem?_eq_some_iff.mp a).1;rw [List.length_append]at this;have h1:[(pt,ab,ps)].length=1:=rfl;lia
     subst ap;rw [List.getElem?_append_right (3:),av,Nat.sub_self]at a;rw [List.getElem?_append_right (3:),aq,Nat.sub_self]at c;cases a;cases c;rw [List.getElem?_eq_getElem hi,cw]at b;cases b;refine⟨km _ _ (SqT.of bw),?_,h1.mono λa xs h=>km _ _ (gt.seqT h)⟩;rw [Qh na];exact gt _ _ bq
   .by_cases ag:k<ak.length
    .rw [List.getElem?_append_left ag]at c;exact bp k e1 e2 a c
    .have ap:k=i:=by
      have:=(List.getElem?_eq_some_iff.mp c).1;rw [List.length_append]at this;have h1:[e'].length=1:=rfl;lia
     subst ap;rw [List.getElem?_append_right (3:),aq,Nat.sub_self]at c;cases c;rw [List.getElem?_eq_getElem (show k<es.length by lia),cu]at a;cases a;exact c1
 .rintro ys H' ⟨ah,g,ws,ak,rfl,av,aq,aw,bo,bp⟩;rw [hn]at av aq;exact q es L T3.en acc ws ak H' ⟨g3.trans g,ah,g3.back ae,λw hw=>⟨g3.back (aw w hw).1,(aw w hw).2⟩,⟨av,aq,bo⟩,bp⟩
end
end K70
namespace K70
open PySem L2 TM TT ST K9 K11
def XW(K:Fg):Sp:=λvs H Q _=>∃(d:Addr)(c:Int)(tu wd lm:Addr)(sv:V)(ks:List KdT)(st:Tm)(ms:List MdT)(kd:KdT),vs=[.ref d,.int c,.ref tu,.str kd.2.1]/\Dk H d/\TurnD K H tu wd lm sv ks st ms/\WoodD K H d wd ks/\DWood c ks/\DTurn ks st ms/\kd∈ks/\
 ∀(wa wl:Addr)(ps:List (Addr×Ent))(e:List Enu)(H':Hp),SameD d H H'->Dk H' d->GivenE K H' ms kd.2.1 wa wl ps e->wl≠d->Q (.ref wa) H'
mutual
theorem Wd.mono{a b:Nat}(h:a<=b):∀u:Tree Str,Wd a u->Wd b u
 | .node _ _ bs=>λw=>by
  rw [Wd]at w ⊢;exact⟨Nat.le_trans w.1 h,WdL.mono h bs w.2⟩
theorem WdL.mono{a b:Nat}(h:a<=b):∀us:List (40:),WdL a us->WdL b us
 | []=>λ_=>by rw [WdL];trivial
 | u::us=>λw=>by
  rw [WdL]at w ⊢;exact⟨Wd.mono h u w.1,WdL.mono h us w.2⟩
end
theorem PsAt.set{K:Fg}{H:Hp}{ps:List (Addr×Ent)}{e:List Enu}{k:Nat}{p:Addr×Ent}{z:Enu}(h:PsAt K H ps e)(e1:p.2.1=z.1)(h1:SqT K H p.1 [.int p.2.1,p.2.2])(h2:TrV K H p.2.2 z.2):PsAt K H (ps.set k p) (e.set k z):=by
 refine⟨by rw [List.map_set,List.map_set,h.m,e1],λi q y a b=>?_⟩;have J:ps.length=e.length:=by have:=congrArg List.length h.m;simpa using this
 by_cases hi:k=i
 .subst hi;have G:=(List.getElem?_eq_some_iff.mp a).1;rw [List.length_set]at G;rw [List.getElem?_set_self G]at a;rw [List.getElem?_set_self (3:)]at b;cases a;cases b;exact⟨h1,h2⟩
 .rw [List.getElem?_set_ne hi]at a b;exact h.v i q y a b
theorem PJ{e:List Enu}(h:∀z∈e,GT 50 z.2):Xy 102 (.list (e.map pd)):=by
 refine U0 (l:=101) λd hd=>?_;obtain⟨z,G,rfl⟩:=List.mem_map.mp hd;refine Xv (l:=100) λd hd=>?_;rcases List.mem_cons.mp hd with rfl | hd
 .exact⟨rfl,by simp [PyData.depth]⟩
 rcases List.mem_cons.mp hd with rfl | hd
 .exact⟨(h z G).ok,(h z G).dp⟩
 .cases hd
structure PW(K:Fg)(d:Addr)(ms:List MdT)(kind:Str)(H0 H:Hp)(pl:Addr)(ps:List (Addr×Ent))(e:List Enu):Prop where
 g:SameD d H0 H
 hd:Dk H d
 hl:H pl=some (.lst (39:))
 p:PsAt K H ps e
 k:∀z∈e,(∃(k:Nat)(md:MdT),z.1=(k:Int)/\ms[k]?=some md/\md.2.1=kind)/\GT 6 z.2
section
variable{K:Fg}{d:Addr}{ms:List MdT}{kind:Str}{H0 H H':Hp}{pl:Addr}{ps:List (Addr×Ent)}{e:List Enu}
theorem PW.len(h:PW K d ms kind H0 H pl ps e):ps.length=e.length:=by have:=congrArg List.length h.p.m;simpa using this
theorem PW.same(h:PW K d ms kind H0 H pl ps e)(g:Same H H'):PW K d ms kind H0 H' pl ps e:=⟨h.g.trans (SameD.of g),h.hd.same g,g _ _ h.hl,h.p.mono λ_ _=>g.seqT,h.k⟩
theorem PW.sameD(h:PW K d ms kind H0 H pl ps e)(hp:pl≠d)(g:SameD d H H')(hd:Dk H' d):PW K d ms kind H0 H' pl ps e:=⟨h.g.trans g,hd,g _ _ hp h.hl,h.p.mono λ_ _=>g.seqT h.hd,h.k⟩
theorem PW.app(h:PW K d ms kind H0 H pl ps e)(hp:pl≠d)(h0:H0 pl=none){p:Addr×Ent}{z:Enu}(e1:p.2.1=z.1)(h1:SqT K H p.1 [.int p.2.1,p.2.2])(h2:TrV K H p.2.2 z.2)(hk:(∃(k:Nat)(md:MdT),z.1=(k:Int)/\ms[k]?=some md/\md.2.1=kind)/\GT 6 z.2):PW K d ms kind H0 (upd H pl (.lst (ps.map (λp=>V.ref p.1)++[.ref p.1]))) pl (ps++[p]) (e++[z]):=by
 have G:∀a xs,SqT K H a xs->SqT K (upd H pl (.lst (ps.map (λp=>V.ref p.1)++[.ref p.1]))) a xs:=λa xs q=>SqT.put q h.hl;refine⟨h.g.put h0,h.hd.put hp,by rw [Qb,List.map_append];rfl,(h.p.mono G).snoc e1 (G _ _ h1) (h2.mono G),λy J=>?_⟩;rcases List.mem_append.mp J with y1 | y1
 .exact h.k y y1
 .rw [List.mem_singleton.mp y1];exact hk
theorem PW.set(h:PW K d ms kind H0 H pl ps e)(hp:pl≠d)(h0:H0 pl=none){k:Nat}{p:Addr×Ent}{z:Enu}(e1:p.2.1=z.1)(h1:SqT K H p.1 [.int p.2.1,p.2.2])(h2:TrV K H p.2.2 z.2)(hk:(∃(k:Nat)(md:MdT),z.1=(k:Int)/\ms[k]?=some md/\md.2.1=kind)/\GT 6 z.2):PW K d ms kind H0 (upd H pl (.lst ((39:).set k (.ref p.1)))) pl (ps.set k p) (e.set k z):=by
 have G:∀a xs,SqT K H a xs->SqT K (upd H pl (.lst ((39:).set k (.ref p.1)))) a xs:=λa xs q=>SqT.put q h.hl;refine⟨h.g.put h0,h.hd.put hp,by rw [Qb,List.map_set],(h.p.mono G).set e1 (G _ _ h1) (h2.mono G),λy J=>?_⟩;rcases List.mem_or_eq_of_mem_set J with y1 | y1
 .exact h.k y y1
 .rw [y1];exact hk
theorem PW.at_(h:PW K d ms kind H0 H pl ps e){i:Nat}(hi:i<ps.length):∃(pa:Addr)(m:Nat)(v:V)(u:Tree Str)(md:MdT),atI (39:) (i:Int)=some (.ref pa)/\SqT K H pa [.int (m:Int),v]/\TrV K H v u/\ms[m]?=some md/\md.2.1=kind:=by
 have G:i<e.length:=by rw [<-h.len];exact hi
 obtain⟨h1,h2⟩:=h.p.v i ps[i] e[i] (24:) (List.getElem?_eq_getElem G);obtain⟨⟨m,md,J,L,M⟩,_⟩:=h.k e[i] (List.getElem_mem G);have U:ps[i].2.1=e[i].1:=by
  have a:=congrArg (λl=>l[i]?) h.p.m;simp only [List.getElem?_map,List.getElem?_eq_getElem hi,List.getElem?_eq_getElem G]at a;exact Option.some.inj a
 rw [U,J]at h1;exact⟨ps[i].1,m,ps[i].2.2,e[i].2,md,QB (by rw [List.getElem?_map,List.getElem?_eq_getElem hi];rfl),h1,h2,L,M⟩
end
section
variable{P:Program}{w:World}{K:Fg}{mg:Str->Option Value}{base:Heap}{f:Addr}{fd:FuncData}
theorem Yr:FnScope ["_law_deck","_law_code","_law_turning_here","_law_kind","_law_some","_law_tree_here","_law_other","_law_pairs","_law_mode","_law_way","_law_k"] ["_law_deck","_law_code","_law_turning_here","_law_kind"] (defScope MO):=(1:)
theorem N7(F:Fun K "_law_want" "_law_want" MO f fd)(G:Gm mg)(RD:Fn P w K mg base 1 "_law_draw" ["_law_deck","_law_most"] QZ)(RT:Fn P w K mg base 5 "_law_tree" ["_law_deck","_law_wood_here","_law_kind","_law_deep"] (ZV K 3))(RM:Fn P w K mg base 15 "_law_made" ["_law_turning_here","_law_mode","_law_tree_here"] (Ue K 12))(RS:Fn P w K mg base 10 "_law_spoiled" ["_law_deck","_law_code","_law_tree_here"] (Zv K 9)):FnOk P w K mg base CX0 16 f fd ["_law_deck","_law_code","_law_turning_here","_law_kind"] (XW K):=by
 refine F.ok Yr (7:) (λb4 A outer s H vs Q E hr h=>?_)
 .obtain⟨d,c,Z,wd,lm,sv,ks,st,ms,J,rfl,_⟩:=h
  rfl
 obtain⟨d,c,Z,wd,lm,sv,ks,st,ms,J,rfl,hd,hT,av,hW,hD,aw,q⟩:=h;refine⟨_,(Qf (ZO (i:=4) (CompG.many (xs:=["_law_mode"]) (caps:=["_law_kind","_law_turning_here"]) (cap:=[3,2]) (cs:=[_,_]) rfl rfl (0:) (0:) (0:) (0:) (0:) (0:) rfl rfl rfl) rfl (QM rfl G.rng (Qa ((Qn Qm rfl G.len PySem.boot_len (Qa ((Qk Qj (pv 2) Qd (2:))) Qc))) Qc)) (Z0 (CompG.many (xs:=["_law_mode"]) (caps:=["_law_kind","_law_turning_here"]) (cap:=[3,2]) (cs:=[_,_]) rfl rfl (0:) (0:) (0:) (0:) (0:) (0:) rfl rfl rfl)) (λ_ _ _ _=>Ur (Qr Za (Qk (r:=JL K) Qj (Qk (r:=X5 K) Qw (Qk (r:=JL K) Qj (pv 2) Qd (2:)) (pv 0) (2:)) Qd (2:)) (pv 1) (Qu _))) (λ_ _ _ _=>pv 0) Yr.nd rfl rfl)
  (Qf (Qo (i:=5) Yr.nd rfl (9:) (Qp RT hr (Qa (pv 0) (Qa ((Qk Qj (pv 2) Qd (2:))) (Qa (pv 3) (Qa (Qd) Qc))))))
  (Qf (Qo (i:=6) Yr.nd rfl (9:) (Qp RT hr (Qa (pv 0) (Qa ((Qk Qj (pv 2) Qd (2:))) (Qa (pv 3) (Qa (Qd) Qc))))))
  (Qf (Qo (i:=7) Yr.nd rfl (9:) (QY Qc))
  (Qf (QL PassesOwn.never rfl (QG (pv 4)) (Qt (i:=8) Yr.nd rfl (9:)) (Qg (QC (Qr Gd (Qp RD hr (49:)) Qd (Qu _)) (Qg (Zw (Yp PySem.F.plainAttrs_list PySem.F.slot_list_append PySem.F.type_list_append QN (pv 7) (Qa ((QD (Qa (pv 8) (Qa (Qp RM hr (Qa (pv 2) (Qa (pv 8) (Qa (pv 5) Qc)))) Qc)))) Qc)))) Qq)))
  (Qf (Qo (i:=9) Yr.nd rfl (9:) (Qp RD hr (49:)))
  (Qf (Uk (QC (PW.pt (pw_and (Qr GD (pv 9) Qd (Qu _)) (pw_and1 (Qr Jv (pv 7) (QY Qc) (Qu _))))) (Qf (Qo (i:=10) Yr.nd rfl (9:) (Qp RD hr (Qa (pv 0) (Qa ((Qn Qm rfl G.len PySem.boot_len (Qa (pv 7) Qc))) Qc))))
  (Qf (Ja (QD (Qa ((Qk Qj (Qk Qw (pv 7) (pv 10) (2:)) Qd (2:))) (Qa (Qp RM hr (Qa (pv 2) (Qa ((Qk Qj (Qk Qw (pv 7) (pv 10) (2:)) Qd (2:))) (Qa (pv 6) Qc)))) Qc))) (ML (pv 7) (pv 10) WH))
  (Qg (QC (Qr Za (pv 9) Qd (Qu _)) (Qg (Ja (QD (Qa ((Qk Qj (Qk Qw (pv 7) (pv 10) (2:)) Qd (2:))) (Qa (Qp RS hr (Qa (pv 0) (Qa (pv 1) (Qa ((Qk Qj (Qk Qw (pv 7) (pv 10) (2:)) Qd (2:))) Qc)))) Qc))) (ML (pv 7) (pv 10) WH))) Qq)))) Qq))
  (Qg (Ql (QD (Qa (pv 3) (Qa (pv 7) Qc)))))))))))),?_⟩
 have b5:=hD.four;have hn:(((ms.map λm=>V.ref m.1).length:Nat):Int).toNat=ms.length:=by rw [List.length_map];rfl
 refine⟨_,rfl,Z,_,2,_,rfl,rfl,hT.tu,rfl,lm,_,rfl,.inl hT.m.1,_,rfl,by lia,by rw [List.length_map];lia,λacc ag=>?_⟩;refine Yk (lo:=0) (n:=(((ms.map λm=>V.ref m.1).length:Nat):Int).toNat) (cs:=[some (.str J.2.1),some (.ref Z)]) (λi ys H'=>H' acc=some (.lst ys)/\Same H H'/\∃zs:List Nat,ys=zs.map (λk:Nat=>V.int (k:Int))/\zs.length<=i/\∀k∈zs,∃md,ms[k]?=some md/\md.2.1=J.2.1) ⟨Qb,Qe ag _,[],rfl,Nat.le_refl _,λk hk=>(nomatch hk)⟩ ?_ ?_
 .rintro i ys H' hi ⟨ai,g,zs,rfl,an,aj⟩;have ax:=hi;rw [hn]at ax;obtain⟨md,aa⟩: ∃md,ms[i]?=some md:=⟨_,List.getElem?_eq_getElem ax⟩;have hM:=(hT.m.same g).2 md (List.mem_of_getElem? aa);rw [Int.zero_add];refine⟨_,rfl,Z,_,2,_,rfl,rfl,g.seqT hT.tu,rfl,_,rfl,lm,_,(i:Int),.ref md.1,rfl,rfl,g.seq hT.m.1,QB (by rw [List.getElem?_map,aa];rfl),md.1,_,0,_,rfl,rfl,hM.1,rfl,_,rfl,?_⟩;refine⟨rfl,_,rfl,?_⟩
  by_cases he:md.2.1=J.2.1
  .refine JJ (by rw [he]) ⟨_,rfl,Qv hi ai (29:) ⟨Qb,λb u eb=>by rw [Qh (Qi eb ag)];exact g _ _ eb,zs++[i],by rw [List.map_append];rfl,by rw [List.length_append];exact Nat.add_le_add_right an 1,λk hk=>?_⟩⟩;rcases List.mem_append.mp hk with z | z
   .exact aj k z
   .rw [List.mem_singleton.mp z];exact⟨md,aa,he⟩
  .exact JO (λz=>he (V.str.inj z)) (ZI hi ⟨ai,g,zs,rfl,by lia,aj⟩)
 rintro ys H1 ⟨ai,g1,zs,rfl,an,aj⟩;rw [hn]at an;have ao:=hd.same g1;have ay:=hT.same g1;have ap:WoodD K H1 d wd ks:=⟨av.1.same g1,av.2⟩;have ah:acc≠d:=hd.ne ag;refine⟨_,rfl,_,rfl,Z,_,0,_,rfl,rfl,ay.tu,rfl,_,rfl,d,wd,c,ks,J,2,rfl,ao,ap,hW,aw,by decide,by decide,λv5 H2 T2 g2 aq bd be bf=>?_⟩;have az:=Zz hW hD g2 ao ay;refine⟨_,rfl,_,rfl,Z,_,0,_,rfl,rfl,az.tu,rfl,_,rfl,d,wd,c,ks,J,2,rfl,aq,ap.sameD g2 ao,hW,aw,by decide,by decide,λv6 H3 T3 g3 hd3 bg bh bi=>?_⟩;have a0:=Zz hW hD g3 aq az;have ba:TrV K H3 v5 T2:=bd.mono λ_ _=>g3.seqT aq;have ar:=g3 _ _ ah (g2 _ _ ah ai);refine⟨(21:),λpl ad=>?_⟩;have g4:=Qe ad (.lst []);have U:pl≠d:=hd3.ne ad;refine⟨_,rfl,acc,rfl,⟨_,SqL.of (g4 _ _ ar)⟩,?_⟩;have made:∀(m:Nat)(md:MdT)(T:Tree Str),ms[m]?=some md->md.2.1=J.2.1->lv T<=2->OfK (QF ks) T J.2.1->∃u,MM ks ms 12 (m:Int) T u/\GT 5 u/\Wd 300 u:=λm md T h1 h2 h3 h4=>by
  obtain⟨u,hu,hg⟩:=ME hW hD 2 T J.2.1 h3 h4 m md h1 h2 12 (12:);exact⟨u,hu,hg,Wd.mono (12:) u ((XJ hD hW 12).1 _ _ _ hu)⟩
 refine Zn (K:=K) (xs:=zs.map λk:Nat=>V.int (k:Int)) (λi σ H'=>∃(c8:Option V)(ps:List (Addr×Ent))(e:List Enu),σ=[some (.ref d),some (.int c),some (.ref Z),some (.str J.2.1),some (.ref acc),some v5,some v6,some (.ref pl),c8,none,none]/\PW K d ms J.2.1 H3 H' pl ps e/\e.length<=i) ⟨none,[],[],rfl,⟨SameD.of g4,hd3.same g4,Qb,⟨rfl,λk p z a=>(nomatch a)⟩,λz Y=>(nomatch Y)⟩,Nat.le_refl _⟩ ?_ ?_ ?_
 .rintro i σ H' _ ⟨c8,ps,e,_,W,_⟩;exact SqL.of (W.g _ _ ah ar)
 .rintro i x σ H' hx ⟨c8,ps,e,rfl,W,ae⟩;rw [List.getElem?_map]at hx;cases Y:zs[i]? with
  | none=>rw [Y]at hx;cases hx
  | some m=>
  rw [Y]at hx;cases hx;have b6:=(List.getElem?_eq_some_iff.mp Y).1;obtain⟨md,aa,ek⟩:=aj m (List.mem_of_getElem? Y);refine⟨_,rfl,d,4,rfl,W.hd,by decide,λr H5 g5 bj r0 r1=>⟨_,_,rfl,rfl,_,rfl,?_⟩⟩;have W5:=W.sameD U g5 bj;refine G1 (λ_=>?_) λ_=>⟨_,ps,e,rfl,W5,by lia⟩;obtain⟨u,hu,hG,b7⟩:=made m md T2 aa ek bf be;refine⟨_,rfl,.inl ⟨rfl,_,SqL.of W5.hl⟩,_,rfl,_,rfl,_,rfl,_,rfl,Z,wd,lm,sv,ks,st,ms,(m:Int),v5,T2,u,rfl,Zz hW hD W5.g hd3 a0,hW.ok,ba.mono λ_ _=>W5.g.seqT hd3,hu,λL H6 g6 ak=>⟨(28:),λpt af=>?_⟩⟩;have gt:=Qe af (.tup [.int (m:Int),L]);have W6:=(W5.same g6).same gt;have b1:=W6.len;refine⟨pl,_,_,rfl,rfl,W6.hl,by rw [List.length_map,Qz];lia,_,ps++[(pt,(m:Int),L)],e++[((m:Int),u)],rfl,W6.app U ad (p:=(pt,(m:Int),L)) (z:=((m:Int),u)) rfl (SqT.of Qb) (trS gt ak) ⟨⟨m,md,rfl,aa,ek⟩,hG.mono (12:)⟩,by rw [List.length_append];exact Nat.add_le_add_right ae 1⟩
 rintro σ H5 ⟨c8,ps,e,rfl,W,ae⟩;rw [List.length_map]at ae;refine⟨_,rfl,d,4,rfl,W.hd,by decide,λbn H6 g6 bo _ _=>?_⟩;have W6:=W.sameD U g6 bo;refine⟨λbp H'=>∃(a6:Option V)(ps:List (Addr×Ent))(e:List Enu),bp=[some (.ref d),some (.int c),some (.ref Z),some (.str J.2.1),some (.ref acc),some v5,some v6,some (.ref pl),c8,some (.int bn),a6]/\PW K d ms J.2.1 H3 H' pl ps e/\e.length<=10,?_,?_⟩
 .refine⟨_,rfl,_,_,rfl,rfl,_,rfl,?_⟩;refine G1 (λ_=>?_) λ_=>Zc ⟨_,ps,e,rfl,W6,by lia⟩;refine⟨_,rfl,(21:),λpe bq=>?_⟩;have ge:=Qe bq (.lst []);have W7:=W6.same ge;have as:upd H6 pe (.lst []) pe=some (.lst []):=Qb;generalize upd H6 pe (.lst [])=H7 at ge W7 as;refine⟨.list (e.map pd),.list [],.lst (SqL.of W7.hl) W7.p.rd,.lst (SqL.of as) .nil,?_,rfl,?_,_,rfl,?_⟩
  .exact(PJ λz Y=>(W7.k z Y).2.mono (12:)).1
  .exact XQ hr (Nat.le_trans (Nat.min_le_right _ _) (12:))
  cases e with
  | nil=>exact Zc ⟨_,ps,[],rfl,W7,by decide⟩
  | cons e0 er=>
  have b3:0<ps.length:=by rw [W7.len];exact Nat.succ_pos _
  refine QU ?_;refine⟨_,rfl,_,rfl,pl,_,rfl,.inl (SqL.of W7.hl),d,_,rfl,W7.hd,by rw [List.length_map];lia,λk0 H8 g8 br k1 k2=>?_⟩;obtain⟨k,rfl⟩: ∃k:Nat,k0=(k:Int):=⟨k0.toNat,by lia⟩;rw [List.length_map]at k2;have hk:k<ps.length:=by lia
  have M:=W7.sameD U g8 br;obtain⟨pa,m,v,u,md,a1,a2,a3,a4,a5⟩:=M.at_ hk;obtain⟨u2,bt,al,bu⟩:=made m md T3 a4 a5 bi bh;refine⟨_,rfl,_,rfl,pl,_,(k:Int),.ref pa,rfl,rfl,SqL.of M.hl,a1,pa,_,0,_,rfl,rfl,a2,rfl,_,rfl,_,rfl,_,rfl,pl,_,(k:Int),.ref pa,rfl,rfl,SqL.of M.hl,a1,pa,_,0,_,rfl,rfl,a2,rfl,_,rfl,Z,wd,lm,sv,ks,st,ms,(m:Int),v6,T3,u2,rfl,Zz hW hD M.g hd3 a0,hW.ok,bg.mono λ_ _=>M.g.seqT hd3,bt,λL H9 g9 ak=>⟨(28:),λpt af=>?_⟩⟩;have gt:=Qe af (.tup [.int (m:Int),L]);have W9:=(M.same g9).same gt;have ab:=W9.set U ad (k:=k) (p:=(pt,(m:Int),L)) (z:=((m:Int),u2)) rfl (SqT.of Qb) (trS gt ak) ⟨⟨m,md,rfl,a4,a5⟩,al.mono (12:)⟩;have au:TrV K (upd (upd H9 pt (.tup [.int (m:Int),L])) pl (.lst ((39:).set k (.ref pt)))) L u2:=(trS gt ak).mono λa xs h=>SqT.put h W9.hl;have ac:SqT K (upd (upd H9 pt (.tup [.int (m:Int),L])) pl (.lst ((39:).set k (.ref pt)))) pt [.int (m:Int),L]:=SqT.put (SqT.of Qb) W9.hl;refine⟨_,rfl,_,rfl,pl,_,(k:Int),k,rfl,rfl,W9.hl,V7 (by rw [List.length_map];exact hk),?_⟩;have am:((e0::er).set k ((m:Int),u2)).length<=10:=by rw [List.length_set];lia
  generalize upd (upd H9 pt (.tup [.int (m:Int),L])) pl (.lst ((39:).set k (.ref pt)))=b8 at ab au ac;refine⟨_,rfl,rfl,_,rfl,?_⟩;refine G1 (λ_=>?_) λ_=>⟨_,_,_,rfl,ab,am⟩;have a7:atI ((ps.set k (pt,(m:Int),L)).map λp=>V.ref p.1) (k:Int)=some (.ref pt):=QB (by rw [List.getElem?_map,List.getElem?_set_self hk];rfl);refine⟨_,rfl,_,rfl,pl,_,(k:Int),.ref pt,rfl,rfl,SqL.of ab.hl,a7,pt,_,0,_,rfl,rfl,ac,rfl,_,rfl,_,rfl,_,rfl,_,rfl,pl,_,(k:Int),.ref pt,rfl,rfl,SqL.of ab.hl,a7,pt,_,1,_,rfl,rfl,ac,rfl,d,c,L,u2,rfl,ab.hd,au,bu,Nat.le_trans al.lv (12:),al.mono (12:),λv3 u3 b9 bv bb bw bx=>⟨(28:),λbz bc=>?_⟩⟩;have a8:=Qe bc (.tup [.int (m:Int),v3]);have a9:=(ab.sameD U bv bb).same a8;have b0:k<(ps.set k (pt,(m:Int),L)).length:=by rw [List.length_set];exact hk
  refine⟨_,rfl,_,rfl,pl,_,(k:Int),k,rfl,rfl,a9.hl,V7 (by rw [List.length_map];exact b0),_,_,_,rfl,a9.set U ad (k:=k) (p:=(bz,(m:Int),v3)) (z:=((m:Int),u3)) rfl (SqT.of Qb) (trS a8 bw) ⟨⟨m,md,rfl,a4,a5⟩,bx 5 al⟩,by rw [List.length_set];exact am⟩
 .rintro bp H7 ⟨a6,ps,e,rfl,W,ae⟩;refine⟨_,rfl,_,rfl,(28:),λpt af=>?_⟩;have gt:=Qe af (.tup [.str J.2.1,.ref pl]);have M:=W.same gt;exact q pt pl ps e _ ((SameD.of g1).trans (g2.trans (g3.trans M.g))) M.hd ⟨SqT.of Qb,SqL.of M.hl,M.p,λz Y=>⟨(M.k z Y).1,(M.k z Y).2.mono (12:)⟩,ae⟩ U
end
end K70
namespace G3
open PySem L2
def shClr:Expr->Option (List Expr)
 | .Call (.Attribute (.Name x p) n apos) [] [] cpos=>if n="clear"/\ (apos.endLine==cpos.line)=true then some [.Name x p]else none
 | _=>none
def rClr(K:Fg):List V->Hp->VK->Prop:=on1 λx H Q=>tyV K "list" x H/\Me x [] H Q
theorem node_clr(X:Cx):NodeOk X shClr (rClr X.K):=.plain λe es M G h=>by
 unfold shClr at G;split at G
 .split at G
  .rename_i J;cases G;obtain⟨t,rfl,h1⟩:=h.one;obtain⟨J,L⟩:=J;subst J;exact⟨LY PySem.F.plainAttrs_list PySem.F.slot_list_clear PySem.F.type_list_clear MA h1 rfl L,rfl⟩
  .cases G
 .cases G
theorem clrI{K:Fg}{l:Addr}{xs:List V}{H:Hp}{Q:VK}(h:H l=some (.lst xs))(k:Q .non (upd H l (.lst []))):rClr K [.ref l] H Q:=⟨tyL h,l,xs,rfl,rfl,h,k⟩
def rLs(K:Fg)(xs:List V)(H:Hp)(Q:VK):Prop:=∃p ys,xs=[.ref p]/\(SqL K H p ys\/SqT K H p ys)/\∀l,H l=none->Q (.ref l) (upd H l (.lst ys))
end G3
namespace K70
open PySem L2 TM TT ST K9 K11
theorem EnOk.of{e e':List Enu}(h:EnOk e)(p:PsOf e e'):EnOk e':=
 ⟨(List.pairwise_map.mpr p.up).imp λ{a b} h=>by lia,λz G=>h.gt z ((p.mem z).mp G),λz G=>h.mr z ((p.mem z).mp G)⟩
theorem Ov{ms ns:List MdT}(em:ns.map MdT.md=ms.map MdT.md)(j w:Nat)(e:List Enu):Y8 ns j w e=Y8 ms j w e:=by
 have:∀m,ZY ns j m=ZY ms j m:=λm=>by
  unfold ZY;cases h:ms[m.toNat]? with
  | some md=>
   obtain⟨G,h1,_,J⟩:=Vb em h;rw [h1];show((G.2.2.2.2[j]?)).getD _=_;rw [J]
   rfl
  | none=>
   have L:ns.length=ms.length:=by have:=congrArg List.length em;simpa using this
   have:ns[m.toNat]?=none:=by
    rw [List.getElem?_eq_none_iff]at h ⊢;lia
   rw [this]
 unfold Y8;simp only [this]
theorem L6{c:Cl}{es es':List (List Enu)}(h:addC c es=some es'):es'.length=es.length:=by
 unfold addC at h;split at h
 .split at h
  .cases h;rfl
  .cases h
 .cases h;rw [List.length_set]
theorem Xa:∀{cs:List Cl}{es es':List (List Enu)},QO cs es=some es'->es'.length=es.length
 | [],es,es',h=>by cases h;rfl
 | c::cs,es,es',h=>by
  rw [QO]at h;obtain⟨G,h1,h2⟩:=Option.bind_eq_some_iff.mp h;rw [Xa h2,L6 h1]
theorem WR{mk:Int}:∀{ts:List Tm}{us:List (40:)}{es es':List (List Enu)},Y5 mk ts us es=some es'->es'.length=es.length
 | [],us,es,es',h=>by
  have h:some es=some es':=h;cases h;rfl
 | t::ts,[],es,es',h=>by
  have h:some es=some es':=h;cases h;rfl
 | t::ts,u::us,es,es',h=>by
  rw [Y5]at h;obtain⟨cs,_,h2⟩:=Option.bind_eq_some_iff.mp h;obtain⟨G,h1,h2⟩:=Option.bind_eq_some_iff.mp h2;rw [WR h2,Xa h1]
theorem NZ{ms:List MdT}{j w:Nat}{e:List Enu}{z:Fs}(h:Y8 ms j w e=some z):z.es.length=w:=by
 have G:=Jx w (e.map λz=>ZY ms j z.1) (e.map (·.2));unfold Y8 at h;rw [h]at G;unfold ZU at G;rw [WR G,List.length_replicate]
theorem Nv{kb:List Str}{K:Fg}{H H2:Hp}{es a b:List (List Enu)}{ws ws2:List Wt}(ha:WsAt K H kb a ws)(hb:WsAt K H2 kb b ws2)(hl:es.length=kb.length)(pa:∀(i:Nat) e e',es[i]?=some e->a[i]?=some e'->PsOf e e')(pb:∀(i:Nat) e e',es[i]?=some e->b[i]?=some e'->PsOf e e'):a=b:=by
 refine List.ext_getElem (by rw [ha.el,hb.el]) λi h1 h2=>?_;have hi:i<es.length:=by have:=ha.el;lia
 exact(pa i es[i] _ (24:) (List.getElem?_eq_getElem h1)).eq (pb i es[i] _ (24:) (List.getElem?_eq_getElem h2))
def VV(K:Fg):Sp:=λvs H Q _=>∃(tu wd lm tu' wd' lm' wa wl:Addr)(sv:V)(c:Int)(ks hs:List KdT)(st:Tm)(ms ns:List MdT)(ps:List (Addr×Ent))(e:List Enu)(kd:KdT)(nm:Str),vs=[.ref tu,.ref tu',.ref wa,.str nm]/\TurnD K H tu wd lm sv ks st ms/\TurnD K H tu' wd' lm' sv hs st ns/\hs.map ZL=ks.map ZL/\ns.map MdT.md=ms.map MdT.md/\DWood c ks/\DTurn ks st ms/\GivenE K H ms kd.2.1 wa wl ps e/\kd∈ks/\(∀r∈kd.2.2.2,r.2.1≠nm)/\∀H',Same H H'->Q (.bl true) H'
def SZ:List G3.S:=[.set 4 (.tup [.ix (.v 2) (53:),.call 0 [.ix (.v 2) (.k (.int 1))]]),.set 5 (.call 1 [.ix (.v 0) (53:),.ix (.v 2) (53:)]),.forR 6 (.call 2 [.v 5]) [
 .set 7 (.call 3 [.v 0,.v 2,.v 6]),
 .set 8 (.call 4 [.v 1,.v 4,.ix (.ix (.v 5) (.v 6)) (53:)]),
 .ite (.an (.cmp .Is (.v 7) (.k .non)) (.cmp .IsNot (.v 8) (.k .non))) [.ret (.k (.bl false))] [],
 .ite (.an (.cmp .IsNot (.v 7) (.k .non)) (.no (.call 5 [.v 8,.v 7]))) [.ret (.k (.bl false))] [],
 .ite (.cmp .IsNot (.v 8) (.k .non)) [
  .forL 9 (.v 8) [.ex (.meth 0 (.ix (.v 9) (.k (.int 1))) [.tup [.k (.int 0),.tup [.k (.str "a"),.k (.int 0),.tup []]]])],
  .ex (.nd 0 [.v 8]),
  .ite (.nd 1 [.call 4 [.v 1,.v 4,.ix (.ix (.v 5) (.v 6)) (53:)],.v 7]) [.ret (.k (.bl false))] []] []],
 .ret (.an (.cmp .Is (.call 4 [.v 1,.v 4,.v 3]) (.k .non)) (.nd 2 [.v 4,.v 2]))]
def Tn(K:Fg):G3.En:=⟨K,[λ_ vs H Q=>G3.rLs K vs H Q,λ_ vs H Q=>Yc K vs H Q E0,λ_ vs H Q=>G3.rLen K vs H Q,λ_ vs H Q=>YY K vs H Q E0,λ_ vs H Q=>NK K vs H Q E0,λ_ vs H Q=>Ui K vs H Q E0],[G3.mApp K],[G3.rClr K,G3.on2 (G3.EqD K true),G3.on2 (G3.EqD K false)],[]⟩
section
variable{P:Program}{w:World}{K:Fg}{mg:Str->Option Value}{base:Heap}{f:Addr}{fd:FuncData}
theorem Rv:FnScope ["_law_turning_here","_law_handed","_law_want_here","_law_name_here","_law_given","_law_rows_here","_law_j","_law_due","_law_found","_law_one"] ["_law_turning_here","_law_handed","_law_want_here","_law_name_here"] (defScope O4):=(1:)
theorem PQ(F:Fun K "_law_rows_hand_on" "_law_rows_hand_on" O4 f fd)(G:Gm mg)(RR:Fn P w K mg base 1 "_law_rows" ["_law_wood_here","_law_kind"] (Yc K))(RH:Fn P w K mg base 6 "_law_handed_on" ["_law_turning_here","_law_want_here","_law_j"] (YY K))(RO:Fn P w K mg base 8 "handed_on" ["turning","want","name"] (NK K))(RT:Fn P w K mg base 53 "_law_told" ["_law_found","_law_due"] (Ui K)):FnOk P w K mg base CX0 54 f fd ["_law_turning_here","_law_handed","_law_want_here","_law_name_here"] (VV K):=by
 refine G3.Fun.okC F Rv (Tn K) SZ (nk:=[G3.shClr,G3.shCmp .NotEq,G3.shCmp .Eq]) (λX c=>⟨.cons (c.ty (r:=G3.rLs) (λX=>Z9) G.lst PyProof.Rows.boot_list) (.cons (c.fn RR) (.cons (c.blt G3.call_len G.len PySem.boot_len) (.cons (c.fn RH) (.cons (c.fn RO) (.cons (c.fn RT) .nil))))),.cons (c.meth G3.m_append) .nil,.cons (c.node G3.node_clr) (.cons c.neD (.cons c.eqD .nil))⟩) (7:) (λH vs Q E h=>?_) G.rng
 .obtain⟨tu,wd,lm,ac,ah,ai,wa,wl,sv,c,ks,hs,st,ms,ns,ps,e,M,nm,rfl,_⟩:=h
  rfl
 obtain⟨tu,wd,lm,ac,ah,ai,wa,wl,sv,c,ks,hs,st,ms,ns,ps,e,M,nm,rfl,hT,a7,ek,em,hW,hD,hG,U,bh,q⟩:=h;have am:=DWood.key ek hW;have an:=DTurn.key ek em hD;obtain⟨ae,ag,ao,a8⟩:=U2 ek U;refine .t _ _ hG.t rfl<| .t _ _ hG.t rfl ⟨wl,_,rfl,.inl hG.l,λgl bi=>⟨λga H2 k2 d2 e2=>?_⟩⟩;have g1:=Qe bi (.lst (39:));have g2:=g1.trans k2;have ap:GivenE K H2 ns ae.2.1 ga gl ps e:=by
  refine⟨by rw [ao];exact d2,SqL.of (k2 _ _ Qb),hG.p.mono λ_ _=>g2.seqT,λz hz=>?_,hG.n⟩;obtain⟨⟨k,md,a1,a2,a3⟩,a4⟩:=hG.k z hz;obtain⟨bj,b1,b2,_⟩:=Vb em a2;exact⟨⟨k,bj,a1,b1,b2.trans (a3.trans ao.symm)⟩,a4⟩
 refine .t _ _ (g2.seqT hT.tu) rfl<| .t _ _ (g2.seqT hG.t) rfl ⟨wd,ks,M,rfl,hT.w.same g2,hW.ok.nd,hW.ok.len,U,λH3 g3=>?_⟩;have aq:=g2.trans g3;have b3:=(hW.ok.rows M U).len;refine .l _ ((hT.w.same aq).2 M U).2.1 ⟨⟨?_,?_⟩,.f (λj σ H'=>∃c6 c7 c8 c9,σ=[some (.ref tu),some (.ref ac),some (.ref wa),some (.str nm),some (.ref ga),some (.ref M.2.2.1),c6,c7,c8,c9]/\Same H3 H') ⟨none,none,none,none,rfl,Same.refl _⟩ ?_ ?_⟩
 .rw [List.length_map];lia
 .rw [List.length_map];lia
 .rintro j _ H4 hj ⟨c6,c7,c8,c9,rfl,g4⟩;rw [List.length_map,Int.toNat_natCast]at hj;obtain⟨r,hr⟩: ∃r,M.2.2.2[j]?=some r:=⟨_,List.getElem?_eq_getElem hj⟩;have ar:ae.2.2.2[j]?=some r:=by rw [a8];exact hr
  have as:=List.mem_of_getElem? hr;have Z:=aq.trans g4;have au:=hT.same Z;have al:=a7.same Z;have av:=ap.same (g3.trans g4);have aa:∀{H5:Hp},Same H4 H5->SqL K H5 M.2.2.1 (M.2.2.2.map λr=>V.ref r.1)/\SqT K H5 r.1 [.str r.2.1,.ref r.2.2.1]:=λg=>⟨g.seq (au.w.2 M U).2.1,g.seqT ((au.w.2 M U).2.2 r as).1⟩;have aw:atI (M.2.2.2.map λr=>V.ref r.1) (j:Int)=some (.ref r.1):=QB (by rw [List.getElem?_map,hr];rfl);have ax:=Ov em j r.2.2.2.length e;refine⟨tu,wd,lm,wa,wl,sv,ks,st,ms,c,ps,e,M,j,r,rfl,au,hW,hD,hG.same Z,U,hr,λhn H5 g5=>?_,λz hz bn l ws ab H5 Y=>?_⟩
  .rw [<-ax]at hn;refine .l _ _ (aa g5).1 aw<| .t _ _ (aa g5).2 rfl ⟨ac,ah,ai,ga,gl,sv,hs,st,ns,c,ps,e,ae,r.2.1,rfl,al.same g5,am,an,av.same g5,ag,.inr ⟨j,r,ar,rfl,λ_ H6 g6=>?_,λz hz=>by rw [hn]at hz;cases hz⟩⟩;exact⟨_,_,_,_,rfl,g4.trans (g5.trans g6)⟩
  .rw [<-ax]at hz;refine .l _ _ (aa Y.g).1 aw<| .t _ _ (aa Y.g).2 rfl ⟨ac,ah,ai,ga,gl,sv,hs,st,ns,c,ps,e,ae,r.2.1,rfl,al.same Y.g,am,an,av.same Y.g,ag,.inr ⟨j,r,ar,rfl,(λhn=>by rw [hz]at hn;cases hn),λz2 bo l2 af bp H6 J=>?_⟩⟩;obtain rfl:z=z2:=Option.some.inj (hz.symm.trans bo);have a9:=NZ hz;obtain rfl:ab=bp:=Nv Y.w J.w a9 Y.e J.e;have ay:∀e∈ab,EnOk e:=λe' az=>by
    obtain⟨i,hi,rfl⟩:=List.getElem_of_mem az;have ba:i<z.es.length:=by have:=Y.w.el;lia
    exact(bn _ (List.getElem_mem ba)).of (Y.e i _ _ (List.getElem?_eq_getElem ba) (24:))
   have bb:∀e∈ab,∀z∈e,GT 50 z.2:=λe' az=>(ay e' az).gt;have bc:=(hW.ok.rows M U).kn r as;refine⟨l2,l,r.2.2.2,ab,af,ws,rfl,SqL.of J.hl,SqL.of (J.g _ _ Y.hl),J.w,Y.w.same J.g,bb,bc,λH7 g7=>?_⟩;have b4:=J.w.wl;refine .f (af.map λw=>V.ref w.1) (λk σ Hc=>∃c9,σ=[some (.ref tu),some (.ref ac),some (.ref wa),some (.str nm),some (.ref ga),some (.ref M.2.2.1),some (.int (j:Int)),some (.ref l),some (.ref l2),c9]/\Same H5 Hc/\Hc l2=some (.lst (af.map λw=>V.ref w.1))/\∀w∈af,(∃kind,SqT K Hc w.1 [.str kind,.ref w.2.1])/\∃xs,Hc w.2.1=some (.lst xs)/\xs.length<=10+k) ⟨_,rfl,J.g.trans g7,g7 _ _ J.hl,λw hw=>?_⟩ ?_ ?_ ?_
   .obtain⟨i,hi,rfl⟩:=List.getElem_of_mem hw;have bq:i<ab.length:=by have:=J.w.el;lia
    have h:=J.w.at_ i af[i] r.2.2.2[i] ab[i] (24:) (List.getElem?_eq_getElem (3:)) (List.getElem?_eq_getElem bq);refine⟨⟨_,g7.seqT h.t⟩,_,g7 _ _ h.l,?_⟩;have h1:=congrArg List.length h.p.m;have h2:=(ay ab[i] (List.getElem_mem _)).len;simp only [List.length_map]at h1 ⊢;lia
   .rintro k _ Hc _ ⟨c9,rfl,_,aj,_⟩;exact SqL.of aj
   .rintro k x _ Hc hx ⟨c9,rfl,gc,aj,bd⟩;rw [List.getElem?_map]at hx;cases hk:af[k]? with
    | none=>rw [hk]at hx;cases hx
    | some w=>
    rw [hk]at hx;cases hx;have a0:=List.mem_of_getElem? hk;have bz:=(List.getElem?_eq_some_iff.mp hk).1;obtain⟨⟨kind,ht⟩,xs,a5,b5⟩:=bd w a0;have b6:=(hW.ok.rows M U).kl r as;refine .t _ _ ht rfl ⟨G3.tyL a5,⟨λp1 X1 k1 d1 _=>⟨λp2 X2 k2 d2 _=>⟨λp3 X3 k3 d3 _=>?_⟩⟩⟩⟩;have kk:=(k1.trans k2).trans k3;refine⟨w.2.1,_,_,rfl,rfl,kk _ _ a5,by rw [Qz];lia,?_⟩;refine⟨_,rfl,λb u eb=>?_,?_,λw' br=>?_⟩
    .rw [Qh (Qi eb (J.nw w a0).1)];exact kk _ _ (gc _ _ eb)
    .rw [Qh (Ne.symm (J.nw w a0).2)];exact kk _ _ aj
    .obtain⟨⟨bx,bt⟩,bu,bg,b0⟩:=bd w' br;refine⟨⟨_,SqT.put (kk.seqT bt) (kk _ _ a5)⟩,?_⟩
     by_cases be:w'.2.1=w.2.1
     .rw [be];exact⟨_,Qb,by rw [List.length_append];show _+1<=_;lia⟩
     .exact⟨bu,by rw [Qh be];exact kk _ _ bg,by lia⟩
   .rintro _ Hc ⟨c9,rfl,gc,aj,_⟩;refine G3.clrI aj ?_;have gd:Same H5 (upd Hc l2 (.lst [])):=λb u eb=>by rw [Qh (Qi eb J.nl)];exact gc _ _ eb
    generalize upd Hc l2 (.lst [])=Hd at gd;have ak:=Y.g.trans gd;refine .l _ _ (aa ak).1 aw<| .t _ _ (aa ak).2 rfl ⟨ac,ah,ai,ga,gl,sv,hs,st,ns,c,ps,e,ae,r.2.1,rfl,al.same ak,am,an,av.same ak,ag,.inr ⟨j,r,ar,rfl,(λhn=>by rw [hz]at hn;cases hn),λz3 bv l3 b7 bw H8 ad=>?_⟩⟩;obtain rfl:z=z3:=Option.some.inj (hz.symm.trans bv);obtain rfl:ab=bw:=Nv Y.w ad.w a9 Y.e ad.e;have L:=U0 (l:=103) (Xp bc bb);refine .e _ _ (.lst (SqL.of ad.hl) ad.w.rd) (.lst (SqL.of (ad.g _ _ (gd _ _ Y.hl))) (Y.w.same (gd.trans ad.g)).rd) L.1 L.1 (Nat.le_trans (Nat.min_le_left _ _) (Nat.le_trans L.2 (12:))) ?_;rw [ZA _ L.1];exact⟨_,_,_,_,rfl,g4.trans (ak.trans ad.g)⟩
 .rintro _ H4 ⟨c6,c7,c8,c9,rfl,g4⟩;have Z:=aq.trans g4;refine⟨ac,ah,ai,ga,gl,sv,hs,st,ns,c,ps,e,ae,nm,rfl,a7.same Z,am,an,ap.same (g3.trans g4),ag,.inl ⟨by rw [a8];exact bh,λH5 g5=>?_⟩⟩;have a6:=ap.same ((g3.trans g4).trans g5);have L:=LR (hW.nm M U) λz hz=>(hG.k z hz).2;have bf:=a6.t;rw [ao]at bf;refine .e (K70.wd M.2.1 e) (K70.wd M.2.1 e) (.tup bf (.cons (.str _) (.cons (.lst a6.l a6.p.rd) .nil))) (.tup ((Z.trans g5).seqT hG.t) (.cons (.str _) (.cons (.lst ((Z.trans g5).seq hG.l) (hG.p.mono λ_ _=>(Z.trans g5).seqT).rd) .nil))) L.1 L.1 (Nat.le_trans (Nat.min_le_left _ _) (Nat.le_trans L.2 (12:))) ?_;rw [ZA _ L.1];exact q H5 (Z.trans g5)
end
end K70
namespace K70
open PySem L2 TM TT ST K9 K11
def GE(K:Fg):Sp:=λvs H Q _=>∃(a:Addr)(ns:List Int),vs=[.ref a]/\SqL K H a (ns.map V.int)/\ns.length<=63/\∀H',Q (.bl true) H'
abbrev S3:List Str:=["_law_script","_law_deck","_law_code","_law_turning_here","_law_handed","_law_kind","_law_want_here","_law_tree_here","_law_found","_law_due"]
def Ti:List G3.S:=[.set 1 (.call 0 [.v 0,.k (.int 1000)]),.set 2 (.call 1 [.v 1,.nd 0 [.k (.int 10),.k (.int 6)]]),.set 3 (.call 2 [.v 1,.v 2,.call 3 [.v 1,.v 2]]),.set 4 (.call 4 [.v 3]),.set 5 (.ix (.ix (.ix (.v 3) (53:)) (.call 1 [.v 1,.call 5 [.ix (.v 3) (53:)]])) (53:)),.set 6 (.call 6 [.v 1,.v 2,.v 3,.v 5]),.ite (.no (.call 7 [.v 3,.v 4,.v 6,.call 8 [.v 2,.k (.int 20)]])) [.ret (.k (.bl false))] [],.set 7 (.call 9 [.v 3,.call 10 [.v 1,.v 3]]),.cut (.ite (.cmp .Eq (.call 1 [.v 1,.k (.int 2)]) (.k (.int 1))) [.set 7 (.call 11 [.v 1,.v 2,.v 7])] []),.set 8 (.call 12 [.v 4,.v 7]),.set 9 (.call 13 [.lst [.ix (.ix (.ix (.v 3) (53:)) (53:)) (53:)],.lst [.ix (.v 3) (.k (.int 1))],.lst [.v 7]]),.ite (.cmp .Is (.v 9) (.k .non)) [.ret (.an (.cmp .Is (.v 8) (.k .non)) (.nd 1 [.v 4,.v 3]))] [],.ret (.an (.call 14 [.lst [.v 8],.v 9]) (.nd 1 [.v 4,.v 3]))]
def S8(K:Fg):G3.En:=⟨K,[λ_ vs H Q=>GC K vs H Q E0,λ_ vs H Q=>QZ vs H Q E0,λ_ vs H Q=>Xz K vs H Q E0,λ_ vs H Q=>XM K vs H Q E0,λ_ vs H Q=>XB K vs H Q E0,λ_ vs H Q=>G3.rLen K vs H Q,λ_ vs H Q=>XW K vs H Q E0,λ_ vs H Q=>VV K vs H Q E0,λ_ vs H Q=>ZC vs H Q E0,λ_ vs H Q=>Uy K 14 vs H Q E0,λ_ vs H Q=>US K vs H Q E0,λ_ vs H Q=>Zv K 9 vs H Q E0,λ_ vs H Q=>Ua K vs H Q E0,λ_ vs H Q=>Y3 K vs H Q E0,λ_ vs H Q=>Ui K vs H Q E0],[],[G3.on2 Lz,G3.on2 (G3.EqD K false)],[]⟩
theorem Mu{c:Int}{ks:List KdT}{st:Tm}{ms:List MdT}(hW:DWood c ks)(hD:DTurn ks st ms):(Zf ks st ms).canLay0=true/\(Zf ks st ms).depth<=20:=by
 obtain⟨G,J⟩: ∃G,ks[0]?=some G:=⟨_,List.getElem?_eq_getElem hW.pos⟩;obtain⟨⟨cs,_,h2⟩,L⟩:=hD.st G J;refine Mg hW.nm hW.ok.rows (h2.mok.mono (3:)) λm U=>?_;obtain⟨M,Y,b2,b3,Z⟩:=(hD.md m U).ex;refine⟨by rw [<-b2];exact hW.nm M Y,λt ht=>?_⟩;obtain⟨j,hj,rfl⟩:=List.getElem_of_mem ht;obtain⟨⟨cs,_,h2⟩,L⟩:=Z j _ _ (List.getElem?_eq_getElem (show j<M.2.2.2.length by lia)) (List.getElem?_eq_getElem hj);exact h2.mok.mono (3:)
section
variable{P:Program}{w:World}{K:Fg}{mg:Str->Option Value}{base:Heap}{f:Addr}{fd:FuncData}
theorem Sc:FnScope S3 ["_law_script"] (defScope VG):=(1:)
theorem Ri(F:Fun K "law" "law" VG f fd)(G:Gm mg)(RU:Fn P w K mg base 1 "_law_numbers" ["_law_script","_law_most"] (GC K))(RD:Fn P w K mg base 1 "_law_draw" ["_law_deck","_law_most"] QZ)(RT:Fn P w K mg base 7 "_law_turning" ["_law_deck","_law_code","_law_wood_here"] (Xz K))(RW:Fn P w K mg base 2 "_law_wood" ["_law_deck","_law_code"] (XM K))(RC:Fn P w K mg base 1 "_law_copy" ["_law_turning_here"] (XB K))(RWt:Fn P w K mg base 16 "_law_want" ["_law_deck","_law_code","_law_turning_here","_law_kind"] (XW K))(RH:Fn P w K mg base 54 "_law_rows_hand_on" ["_law_turning_here","_law_handed","_law_want_here","_law_name_here"] (VV K))(RN:Fn P w K mg base 1 "_law_name" ["_law_code","_law_k"] ZC)(RO:Fn P w K mg base 18 "_law_outcome" ["_law_turning_here","_law_tree_here"] (Uy K 14))(RS:Fn P w K mg base 19 "_law_small" ["_law_deck","_law_turning_here"] (US K))(RSp:Fn P w K mg base 10 "_law_spoiled" ["_law_deck","_law_code","_law_tree_here"] (Zv K 9))(RA:Fn P w K mg base 7 "wanted" ["turning","tree"] (Ua K))(RWs:Fn P w K mg base 5 "_law_wants" ["_law_kinds","_law_terms","_law_trees"] (Y3 K))(RTd:Fn P w K mg base 53 "_law_told" ["_law_found","_law_due"] (Ui K)):FnOk P w K mg base CX0 55 f fd ["_law_script"] (GE K):=by
 refine G3.Fun.okC F Sc (S8 K) Ti (nk:=[G3.shBin .Pow,G3.shCmp .Eq]) (λX c=>⟨.cons (c.fn RU) (.cons (c.fn RD) (.cons (c.fn RT) (.cons (c.fn RW) (.cons (c.fn RC) (.cons (c.blt G3.call_len G.len PySem.boot_len) (.cons (c.fn RWt) (.cons (c.fn RH) (.cons (c.fn RN) (.cons (c.fn RO) (.cons (c.fn RS) (.cons (c.fn RSp) (.cons (c.fn RA) (.cons (c.fn RWs) (.cons (c.fn RTd) .nil)))))))))))))),.nil,.cons (c.node (r:=λ_=>G3.on2 Lz) WQ) (.cons c.eqD .nil)⟩) (7:) (λH vs Q E h=>?_) G.rng
 .obtain⟨a,ns,rfl,_⟩:=h
  rfl
 obtain⟨a,ns,rfl,hS,b0,q⟩:=h;refine⟨a,ns,rfl,hS,b0,λd H1 g1 nd b1=>⟨⟨by decide,by decide,by decide⟩,d,_,rfl,b1,by decide,λJ H2 g2 b3 c0 c1=>⟨d,J,rfl,b3,λwd H3 ks g3 hd3 bb M b4=>⟨d,J,wd,ks,rfl,hd3,bb,M,λtu lm sv st ms H4 g4 b5 hT U ct cu=>⟨tu,wd,lm,sv,ks,st,ms,rfl,hT,M.ok,by have:=U.four;lia,λai as au hs ad H5 g5 b6 ek em=>?_⟩⟩⟩⟩⟩;have bp:WoodD K H5 d wd ks:=by
  have:=bb.sameD g4 hd3;exact⟨this.1.same g5,this.2⟩
 have am:=b5.same g5;have an:=hT.same g5;have ae:=DWood.key ek M;have af:=DTurn.key ek em U;obtain⟨Z,ac⟩: ∃Z,ks[0]?=some Z:=⟨_,List.getElem?_eq_getElem M.pos⟩;obtain⟨b7,bq,b8,_⟩:=Xs ek ac;have cp:=M.pos;refine .t _ _ an.tu rfl<| .t _ _ an.tu rfl<| .l _ an.w.1 ⟨d,_,rfl,am,by rw [List.length_map];lia,λkn H6 g6 ao cv b9=>?_⟩;rw [List.length_map]at b9;obtain⟨k,rfl⟩: ∃k:Nat,kn=(k:Int):=⟨kn.toNat,by lia⟩;obtain⟨kd,bc⟩: ∃kd,ks[k]?=some kd:=(26:);have ag:=List.mem_of_getElem? bc;have ap:=Zz M U g6 am an;have br:=Zz ae af g6 am b6;have av:=bp.sameD g6 am;refine .l _ (.ref kd.1) ap.w.1 (QB (by rw [List.getElem?_map,bc];rfl))<| .t _ _ (ap.w.2 kd ag).1 rfl ⟨d,J,tu,wd,lm,sv,ks,st,ms,kd,rfl,ao,ap,av,M,U,ag,λwa wl ps e H7 g7 ca hG cw=>⟨J,20,rfl,?_⟩⟩;have bd:=Zz M U g7 ao ap;have aw:=Zz ae af g7 ao br;have ax:=av.sameD g7 ao;refine⟨tu,wd,lm,ai,as,au,wa,wl,sv,J,ks,hs,st,ms,ad,ps,e,kd,nmS J 20,rfl,bd,aw,ek,em,M,U,hG,ag,λr hr=>?_,λH8 g8=>?_⟩
 .obtain⟨i,i0,i1,ei⟩:=b4 kd ag r hr;rw [ei];intro z;have:=Gi (c:=J) (k:=i) (k':=20) i0 (3:) (3:) (3:) z;lia
 have ay:=ca.same g8;have be:=bd.same g8;have bt:=aw.same g8;have bu:WoodD K H8 d wd ks:=⟨ax.1.same g8,ax.2⟩;refine⟨d,tu,wd,lm,sv,J,ks,st,ms,Z,rfl,ay,be,bu,M,U,ac,λv9 H9 T g9 cb cc hO hl=>?_⟩;have bf:=Zz M U g9 ay be;have bv:=Zz ae af g9 ay bt;obtain⟨u,hu,aq⟩:=LV M U ac (l:=3) hl hO (n:=14) (12:);refine⟨tu,wd,lm,sv,v9,ks,st,ms,T,u,rfl,bf,M.ok,cc,hu,λaz cx a0 bw=>?_⟩;have bx:=bf.same a0;have ba:=bv.same a0;have ah:=cb.same a0;refine .c (λcq H'=>∃(v:V)(u:Tree Str),cq=[some (.ref a),some (.ref d),some (.int J),some (.ref tu),some (.ref ai),some (.str kd.2.1),some (.ref wa),some v,none,none]/\TurnD K H' tu wd lm sv ks st ms/\TurnD K H' ai as au sv hs st ad/\TrV K H' v u/\GT 50 u) ?_ ?_
 .refine⟨d,2,rfl,ah,by decide,λr a1 a3 ak _ _=>?_⟩;have Y:=Zz M U a3 ah bx;have aa:=Zz ae af a3 ah ba;have a4:TrV K a1 az u:=bw.mono λ_ _=>a3.seqT ah;obtain⟨cs,ar,_⟩:=W0 U.four (U.st Z ac).1;refine G3.iteI (λ_=>?_) λ_=>⟨az,u,rfl,Y,aa,a4,aq.mono (12:)⟩;refine⟨d,J,az,u,rfl,ak,a4,Wd.mono (12:) u ((XJ U M 14).2 _ _ _ _ ar hu),Nat.le_trans aq.lv (12:),aq.mono (12:),λv3 u3 bg ab cr ce cf=>?_⟩;exact⟨v3,u3,rfl,Zz M U ab ak Y,Zz ae af ab ak aa,ce,(cf 8 aq).mono (12:)⟩
 rintro _ a1 ⟨v,u,rfl,Y,aa,hv,a5⟩;obtain⟨bz,cy⟩:=U.st Z ac;obtain⟨cs,ar,bh⟩:=W0 U.four bz;have al:=List.mem_of_getElem? ac;have bi:atI (ks.map λk=>V.ref k.1) (0:Int)=some (.ref Z.1):=QB (j:=0) (by rw [List.getElem?_map,ac];rfl);have aj:ZU 1 [st] [u]=if(35:).1=true then some (35:).2.es else none:=by
  rw [Jx];show(if(35:).1=true then some (35:).2 else none).map (·.es)=_
  by_cases hc:(go 3 st u ⟨none,[[]]⟩).1=true
  .rw [if_pos hc,if_pos hc];rfl
  .rw [if_neg hc,if_neg hc];rfl
 obtain⟨cT,dT⟩:=Mu M U;have ed:Zf hs st ad=Zf ks st ms:=by unfold Zf;rw [ek,em]
 have fin:∀{Hb:Hp},Same a1 Hb->G3.EqD K false (.ref ai) (.ref tu) Hb Q:=λ{Hb} gb=>by
  refine .e (Zf hs st ad) (Zf ks st ms) (Gg (aa.same gb)) (Gg (Y.same gb)) (by rw [ed];exact cT) cT (Nat.le_trans (Nat.min_le_right _ _) (Nat.le_trans dT (12:))) ?_;show Q (.bl (PyData.eqv (Zf hs st ad) (Zf ks st ms))) Hb;rw [ed,ZA _ cT];exact q Hb
 refine⟨ai,as,au,sv,v,hs,st,ad,J,b7,u,rfl,aa,ae,af,bq,hv,a5,λa6 bg ab=>?_,λa6 w e e' bg ab he bj hw=>?_⟩
 .rw [a6,if_neg Bool.false_ne_true]at aj;have L:=Y.same ab;refine .t _ _ L.tu rfl<| .l _ _ L.w.1 bi<| .t _ _ (L.w.2 Z al).1 rfl ⟨λl1 X1 k1 d1 n1=>?_⟩;refine .t _ _ (k1.seqT L.tu) rfl ⟨λl2 X2 k2 d2 n2=>⟨λl3 X3 k3 d3 n3=>?_⟩⟩;have g3:=(ab.trans k1).trans (k2.trans k3);refine⟨l1,l2,l3,[Z.2.1],[sv],[v],[st],[u],rfl,.inr (SqL.of ((k2.trans k3) _ _ d1)),SqL.of (k3 _ _ d2),SqL.of d3,.cons (Y.same g3).s .nil,.cons (trS g3 hv) .nil,rfl,(by show 1<=10;decide),(by show 1<=10;decide),λt ht=>?_,λu' a7=>?_,λ_ cg ch=>?_,λes he=>by rw [show([Z.2.1]:List Str).length=1 from rfl,aj]at he;cases he⟩
  .rw [List.mem_singleton.mp ht];exact⟨by lia,cs,ar,bh⟩
  .rw [List.mem_singleton.mp a7];exact a5
  .exact fin (g3.trans ch)
 .rw [a6,if_pos rfl,he]at aj;have L:=Y.same ab;refine .t _ _ L.tu rfl<| .l _ _ L.w.1 bi<| .t _ _ (L.w.2 Z al).1 rfl ⟨λl1 X1 k1 d1 n1=>?_⟩;refine .t _ _ (k1.seqT L.tu) rfl ⟨λl2 X2 k2 d2 n2=>⟨λl3 X3 k3 d3 n3=>?_⟩⟩;have bn:=k1.trans (k2.trans k3);have g3:=ab.trans bn;refine⟨l1,l2,l3,[Z.2.1],[sv],[v],[st],[u],rfl,.inr (SqL.of ((k2.trans k3) _ _ d1)),SqL.of (k3 _ _ d2),SqL.of d3,.cons (Y.same g3).s .nil,.cons (trS g3 hv) .nil,rfl,(by show 1<=10;decide),(by show 1<=10;decide),λt ht=>?_,λu' a7=>?_,(λhn=>by rw [show([Z.2.1]:List Str).length=1 from rfl,aj]at hn;cases hn),λes bo ci l ws a8 cg hN=>?_⟩
  .rw [List.mem_singleton.mp ht];exact⟨by lia,cs,ar,bh⟩
  .rw [List.mem_singleton.mp a7];exact a5
  rw [show([Z.2.1]:List Str).length=1 from rfl,aj]at bo;obtain rfl:[e]=es:=Option.some.inj bo;refine⟨λl4 cz k4 d4 n4=>?_⟩;have cj:a8=[e']:=by
   have h1:a8.length=1:=hN.w.el
   match a8,h1,hN.e with
   | [x],_,h=>rw [(h 0 e x rfl rfl).eq bj]
  subst cj;have a9:=hw.same ((bn.trans hN.g).trans k4);rw [b8]at a9;have ck:∀z∈e',GT 50 z.2:=λz hz=>(ci e List.mem_cons_self).gt z ((bj.mem z).mp hz);refine⟨l4,l,[Z.2.1],[e'],[w],ws,rfl,SqL.of d4,SqL.of (k4 _ _ hN.hl),⟨rfl,rfl,λi w' co e2 a b c=>?_⟩,hN.w.same k4,λe2 cm=>by rw [List.mem_singleton.mp cm];exact ck,λk hk=>by rw [List.mem_singleton.mp hk];exact M.nm Z al,λc2 cn=>?_⟩
  .match i,a,b,c with
   | 0,a,b,c=>cases a;cases b;cases c;exact a9
   | i+1,a,_,_=>cases a
  .exact fin (((g3.trans hN.g).trans k4).trans cn)
end
end K70
namespace L2
theorem ln1{α:Type}{us:List α}(h:us.length=1):∃a,us=[a]:=List.length_eq_one_iff.mp h
theorem ln2{α:Type}{us:List α}(h:us.length=2):∃a b,us=[a,b]:=by
 match us,h with
 | [a,b],_=>exact⟨a,b,rfl⟩
theorem ln3{α:Type}{us:List α}(h:us.length=3):∃a b c,us=[a,b,c]:=by
 match us,h with
 | [a,b,c],_=>exact⟨a,b,c,rfl⟩
theorem ln4{α:Type}{us:List α}(h:us.length=4):∃a b c d,us=[a,b,c,d]:=by
 match us,h with
 | [a,b,c,d],_=>exact⟨a,b,c,d,rfl⟩
end L2
namespace L2
open PySem
structure MethAt(K:Fg)(C:Addr)(m qual:Str)(st:Stmt):Prop where
 ex:∃(f:Addr)(oc:Value)(od:Option Addr)(kV doc pm:Value)(an:Option Addr)(cdv ct:Value)(osl:Array (Option Value)),
  PySem.W.findIn K (.ref C) m=some (some (.ref f))/\PySem.W.isFn K (.ref f)=true/\K.lookup f=some ⟨oc,od,.func (PySem.W.fnOf m qual (defArgs st) (defBody st) (defScope st) .none kV doc pm an cdv ct),osl⟩/\PySem.W.codeIn K cdv qual=true/\PySem.W.keepIn K (.ref f)=true
theorem MethAt.mk'{K:Fg}{C:Addr}{m qual:Str}{st:Stmt}{f:Addr}{oc:Value}{od:Option Addr}{kV doc pm:Value}{an:Option Addr}{cdv ct:Value}{osl:Array (Option Value)}
 (a:PySem.W.findIn K (.ref C) m=some (some (.ref f))) (i:PySem.W.isFn K (.ref f)=true) (l:K.lookup f=some ⟨oc,od,.func (PySem.W.fnOf m qual (defArgs st) (defBody st) (defScope st) .none kV doc pm an cdv ct),osl⟩) (c:PySem.W.codeIn K cdv qual=true) (k:PySem.W.keepIn K (.ref f)=true):MethAt K C m qual st:=
 ⟨f,oc,od,kV,doc,pm,an,cdv,ct,osl,a,i,l,c,k⟩
end L2
namespace K70
open PySem L2
structure FtK(K:Fg):Prop where
 ex:∃C:Addr,PySem.W.nsIn K mainGlobals "Fit"=some (some (.ref C))/\Cls K C/\NoAttr K C "kinds"/\ NoAttr K C "mark"/\ NoAttr K C "needed"/\ PySem.W.makesIn K C=true/\PySem.W.keepIn K (.ref C)=true/\
  MethAt K C "__init__" "Fit.__init__" sFI/\MethAt K C "goes_onto" "Fit.goes_onto" sGO/\MethAt K C "mark_goes" "Fit.mark_goes" sMG/\MethAt K C "handed" "Fit.handed" sHd
theorem FtK.mk'{K:Fg}{C:Addr}(aC:PySem.W.nsIn K mainGlobals "Fit"=some (some (.ref C)))(pg:PySem.W.plainGet K C Str.empty=true)(hd:PySem.W.hasDictIn K C=true)(po:PySem.W.plainOver K C=true)
 (sa:PySem.W.findIn K (.ref C) "__setattr__"=some (some (.builtin "object.__setattr__"))) (n1:PySem.W.findIn K (.ref C) "kinds"=some none) (n2:PySem.W.findIn K (.ref C) "mark"=some none) (n3:PySem.W.findIn K (.ref C) "needed"=some none)
 (mk:PySem.W.makesIn K C=true) (kc:PySem.W.keepIn K (.ref C)=true) (m1:MethAt K C "__init__" "Fit.__init__" sFI) (m2:MethAt K C "goes_onto" "Fit.goes_onto" sGO) (m3:MethAt K C "mark_goes" "Fit.mark_goes" sMG) (m4:MethAt K C "handed" "Fit.handed" sHd):FtK K:=
 ⟨C,aC,⟨pg,hd,po,sa⟩,n1,n2,n3,mk,kc,m1,m2,m3,m4⟩
theorem FtK.m{P:Program}{w:World}{K:Fg}{mg:Str->Option Value}{base h:Heap}(S:FtK K)(X:K.In h)(N:h.Ns mainGlobals mg)(G:Gm mg)(RC:Fn P w K mg base 1 "is_call" ["term"] (Wp K))(RP:Fn P w K mg base 1 "mark_put" ["term","mark"] (Ou K))(RA:Fn P w K mg base 1 "pairs_of" ["trees"] (UZ K)):∃C,FtM P w K mg base C:=by
 obtain⟨C,aC,cl,n1,n2,n3,mk,kc,m1,m2,m3,m4⟩:=S.ex;have T:FtT K mg C:=⟨cl,n1,n2,n3,PySem.W.mg_of X N aC⟩;obtain⟨f1,am,an,ao,aa,ap,aq,ab,ar,ac,L,i1,l1,c1,k1⟩:=m1.ex;obtain⟨f2,as,au,av,ad,aw,ax,ae,ay,af,a2,i2,l2,c2,k2⟩:=m2.ex;obtain⟨f3,az,a0,a5,ag,a6,a7,ah,a8,ai,M,i3,l3,c3,Y⟩:=m3.ex;obtain⟨f4,a9,ba,bb,aj,bc,bd,ak,be,al,a4,i4,l4,c4,Z⟩:=m4.ex;have F1:=QT (st:=sFI) l1 c1 k1;have F2:=QT (st:=sGO) l2 c2 k2;have F3:=QT (st:=sMG) l3 c3 Y;have F4:=QT (st:=sHd) l4 c4 Z;have b1:Binds K _ ["self","kinds"] []:=F1.binds λ_ _ _ _ _ _ U J=>by obtain⟨L,a2,rfl⟩:=ln2 J;rfl
 have b2:Binds K _ ["self","term","tree"] []:=F2.binds λ_ _ _ _ _ _ U J=>by obtain⟨L,a2,M,rfl⟩:=ln3 J;rfl
 have b3:Binds K _ ["self","term","mark"] []:=F3.binds λ_ _ _ _ _ _ U J=>by obtain⟨L,a2,M,rfl⟩:=ln3 J;rfl
 have b4:Binds K _ ["self"] []:=F4.binds λ_ _ _ _ _ _ U J=>by obtain⟨L,rfl⟩:=ln1 J;rfl
 exact⟨C,T,⟨f1,_,⟨mk,L,i1,kc⟩,Ss F1 T,b1⟩,⟨f2,_,⟨a2,i2,k2⟩,L7 F2 G T RC ⟨f3,_,⟨M,i3,Y⟩,RG F3 T RP,b3⟩ ⟨a2,i2,k2⟩ b2 3,b2⟩,⟨f4,_,⟨a4,i4,Z⟩,Sd F4 G T RA,b4⟩⟩
end K70
namespace K70
open PySem L2
theorem all_mk{l:PySem.W.OpenLaw}{w:World}{K:Fg}{h:Heap}{mg:Str->Option Value}{fa:Addr}(X:K.In h)(N:h.Ns mainGlobals mg)(hfa:mg "law"=some (.ref fa))
 (d1:DefAt K "is_call" Rn) (d2:DefAt K "mark_put" sMP) (d3:DefAt K "rows_of" XN) (d4:DefAt K "row_of" VC) (d5:DefAt K "rule_of" PM) (d6:DefAt K "wanted" XV) (d7:DefAt K "handed_on" sHO) (d8:DefAt K "fit_of" Vy) (d9:DefAt K "pairs_of" VI) (d10:DefAt K "_law_numbers" O6) (d11:DefAt K "_law_draw" MH) (d12:DefAt K "_law_mark" LO) (d13:DefAt K "_law_name" M5) (d14:DefAt K "_law_wood" Na) (d15:DefAt K "_law_rows" LB) (d16:DefAt K "_law_term" WD) (d17:DefAt K "_law_changed" LZ) (d18:DefAt K "_law_calls" VJ) (d19:DefAt K "_law_rule" M0) (d20:DefAt K "_law_turning" LC) (d21:DefAt K "_law_bare" WK) (d22:DefAt K "_law_copy" Nw) (d23:DefAt K "_law_whole" Vr) (d24:DefAt K "_law_rule_of" sRO) (d25:DefAt K "_law_made" Xd) (d26:DefAt K "_law_made_by" sMB) (d27:DefAt K "_law_tree" J7) (d28:DefAt K "_law_outcome" LL) (d29:DefAt K "_law_names_in" MZ) (d30:DefAt K "_law_need" Wu) (d31:DefAt K "_law_stands" YZ) (d32:DefAt K "_law_wants" Vx) (d33:DefAt K "_law_handed_on" Xn) (d34:DefAt K "_law_spoiled" YR) (d35:DefAt K "_law_small" Vu) (d36:DefAt K "_law_plain_tree" JB) (d37:DefAt K "_law_is_want" Rf) (d38:DefAt K "_law_told" M6) (d39:DefAt K "_law_want" MO) (d40:DefAt K "_law_rows_hand_on" O4) (d41:DefAt K "law" VG)
 (z1:PySem.W.nsIn K mainGlobals "len"=some none) (z2:PySem.W.nsIn K mainGlobals "isinstance"=some none) (z3:PySem.W.nsIn K mainGlobals "int"=some none) (z4:PySem.W.nsIn K mainGlobals "bool"=some none) (z5:PySem.W.nsIn K mainGlobals "str"=some none) (z6:PySem.W.nsIn K mainGlobals "tuple"=some none) (z7:PySem.W.nsIn K mainGlobals "list"=some none) (z8:PySem.W.nsIn K mainGlobals "range"=some none) (z9:PySem.W.nsIn K mainGlobals "sum"=some none) (z10:PySem.W.nsIn K mainGlobals "reversed"=some none) (z11:PySem.W.nsIn K mainGlobals "zip"=some none) (z12:PySem.W.nsIn K mainGlobals "all"=some none) (z13:PySem.W.nsIn K mainGlobals "enumerate"=some none) (z14:PySem.W.nsIn K mainGlobals "sorted"=some none) (z15:PySem.W.nsIn K mainGlobals "dict"=some none)  (s1:FtK K):
 ∃fd:FuncData,(∀(s:Shared)(v:Value),BindsTo s fd ⟨[v],[]⟩ [("_law_script",v)])/\∀base:Heap,K.In base->base.Ns mainGlobals mg->FnOk l.prog w K mg base CX0 55 fa fd ["_law_script"] (GE K):=by
 have G:Gm mg:=⟨PySem.W.mg_none_of X N z1,PySem.W.mg_none_of X N z2,PySem.W.mg_none_of X N z3,PySem.W.mg_none_of X N z4,PySem.W.mg_none_of X N z5,PySem.W.mg_none_of X N z6,PySem.W.mg_none_of X N z7,PySem.W.mg_none_of X N z8,PySem.W.mg_none_of X N z9,PySem.W.mg_none_of X N z10,PySem.W.mg_none_of X N z11,PySem.W.mg_none_of X N z12,PySem.W.mg_none_of X N z13,PySem.W.mg_none_of X N z14,PySem.W.mg_none_of X N z15⟩;obtain⟨f,oc,od,kV,aa,pm,an,ab,ct,ac,a,Z,c,kp⟩:=d41.ex;have e:=hfa.symm.trans (PySem.W.mg_of X N a);cases e;have F:=QT (st:=VG) Z c kp;refine⟨PySem.W.fnOf "law" "law" (defArgs VG) (defBody VG) (defScope VG) .none kV aa pm an ab ct,λs v=>.of_eq rfl,λbase _ _=>?_⟩;have as:Fn l.prog w K mg base 1 "is_call" ["term"] (Wp K):=d1.fn X N (λf fd F=>P1 F) λ_ _ _ _ _ _ L J=>by obtain⟨U,rfl⟩:=ln1 J;rfl
 have au:Fn l.prog w K mg base 1 "mark_put" ["term","mark"] (Ou K):=d2.fn X N (λf fd F=>Rw F G) λ_ _ _ _ _ _ L J=>by obtain⟨U,a2,rfl⟩:=ln2 J;rfl
 have ag:Fn l.prog w K mg base 1 "rows_of" ["wood","kind"] (Ub K):=d3.fn X N (λf fd F=>GZ F G) λ_ _ _ _ _ _ L J=>by obtain⟨U,a2,rfl⟩:=ln2 J;rfl
 have av:Fn l.prog w K mg base 2 "row_of" ["wood","kind","name"] (XC K):=d4.fn X N (λf fd F=>LJ F G ag) λ_ _ _ _ _ _ L J=>by obtain⟨U,a2,a3,rfl⟩:=ln3 J;rfl
 have aw:Fn l.prog w K mg base 2 "rule_of" ["turning","mode","name"] (Ms K):=d5.fn X N (λf fd F=>Pb F G ag) λ_ _ _ _ _ _ L J=>by obtain⟨U,a2,a3,rfl⟩:=ln3 J;rfl
 have ax:Fn l.prog w K mg base 1 "pairs_of" ["trees"] (UZ K):=d9.fn X N (λf fd F=>Ng F G) λ_ _ _ _ _ _ L J=>by obtain⟨U,rfl⟩:=ln1 J;rfl
 obtain⟨C,M⟩:=s1.m (P:=l.prog) (w:=w) (base:=base) X N G as au ax;have ay:Fn l.prog w K mg base 7 "fit_of" ["turning","want","name"] (X6 K C):=d8.fn X N (λf fd F=>MD F M av aw) λ_ _ _ _ _ _ L J=>by obtain⟨U,a2,a3,rfl⟩:=ln3 J;rfl
 have az:Fn l.prog w K mg base 8 "handed_on" ["turning","want","name"] (NK K):=d7.fn X N (λf fd F=>Sx F M ay) λ_ _ _ _ _ _ L J=>by obtain⟨U,a2,a3,rfl⟩:=ln3 J;rfl
 have a0:Fn l.prog w K mg base 7 "wanted" ["turning","tree"] (Ua K):=d6.fn X N (λf fd F=>Ly F M) λ_ _ _ _ _ _ L J=>by obtain⟨U,a2,rfl⟩:=ln2 J;rfl
 have rU:Fn l.prog w K mg base 1 "_law_numbers" ["_law_script","_law_most"] (GC K):=d10.fn X N (λf fd F=>Pk F G) λ_ _ _ _ _ _ L J=>by obtain⟨U,a2,rfl⟩:=ln2 J;rfl
 have rD:Fn l.prog w K mg base 1 "_law_draw" ["_law_deck","_law_most"] QZ:=d11.fn X N (λf fd F=>NF F) λ_ _ _ _ _ _ L J=>by obtain⟨U,a2,rfl⟩:=ln2 J;rfl
 have rK:Fn l.prog w K mg base 2 "_law_mark" ["_law_deck"] Yq:=d12.fn X N (λf fd F=>NH F rD) λ_ _ _ _ _ _ L J=>by obtain⟨U,rfl⟩:=ln1 J;rfl
 have rN:Fn l.prog w K mg base 1 "_law_name" ["_law_code","_law_k"] ZC:=d13.fn X N (λf fd F=>N3 F G) λ_ _ _ _ _ _ L J=>by obtain⟨U,a2,rfl⟩:=ln2 J;rfl
 have rW:Fn l.prog w K mg base 2 "_law_wood" ["_law_deck","_law_code"] (XM K):=d14.fn X N (λf fd F=>Oy F G rD rN) λ_ _ _ _ _ _ L J=>by obtain⟨U,a2,rfl⟩:=ln2 J;rfl
 have rR:Fn l.prog w K mg base 1 "_law_rows" ["_law_wood_here","_law_kind"] (Yc K):=d15.fn X N (λf fd F=>NN F) λ_ _ _ _ _ _ L J=>by obtain⟨U,a2,rfl⟩:=ln2 J;rfl
 have rT:Fn l.prog w K mg base 5 "_law_term" ["_law_deck","_law_code","_law_calls_here","_law_deep"] (Yj K 3):=by
  obtain⟨f,oc,od,kV,aa,pm,an,ab,ct,ac,a,Z,c,kp⟩:=d16.ex;have F:=QT (st:=WD) Z c kp;have Y:Binds K _ ["_law_deck","_law_code","_law_calls_here","_law_deep"] []:=F.binds λ_ _ _ _ _ _ L J=>by obtain⟨U,a2,a3,a4,rfl⟩:=ln4 J;rfl
  exact⟨f,_,WW F G rD rK rN Y (PySem.W.mg_of X N a) 3,Y,kp,PySem.W.mg_of X N a⟩
 have rC:Fn l.prog w K mg base 5 "_law_changed" ["_law_deck","_law_code","_law_term_here","_law_calls_here"] (UF K 3):=by
  obtain⟨f,oc,od,kV,aa,pm,an,ab,ct,ac,a,Z,c,kp⟩:=d17.ex;have F:=QT (st:=LZ) Z c kp;have Y:Binds K _ ["_law_deck","_law_code","_law_term_here","_law_calls_here"] []:=F.binds λ_ _ _ _ _ _ L J=>by obtain⟨U,a2,a3,a4,rfl⟩:=ln4 J;rfl
  exact⟨f,_,Gr F G rD rK rN Y (PySem.W.mg_of X N a) 3,Y,kp,PySem.W.mg_of X N a⟩
 have rL:Fn l.prog w K mg base 6 "_law_rule" ["_law_deck","_law_code","_law_base","_law_calls_here"] (Vo K):=d19.fn X N (λf fd F=>NO F rD rC rT) λ_ _ _ _ _ _ L J=>by obtain⟨U,a2,a3,a4,rfl⟩:=ln4 J;rfl
 have rA:Fn l.prog w K mg base 1 "_law_calls" ["_law_kinds","_law_branches"] (X8 K):=d18.fn X N (λf fd F=>M9 F G) λ_ _ _ _ _ _ L J=>by obtain⟨U,a2,rfl⟩:=ln2 J;rfl
 have rB:Fn l.prog w K mg base 3 "_law_bare" ["_law_term_here"] (Yu K 3):=by
  obtain⟨f,oc,od,kV,aa,pm,an,ab,ct,ac,a,Z,c,kp⟩:=d21.ex;have F:=QT (st:=WK) Z c kp;have Y:Binds K _ ["_law_term_here"] []:=F.binds λ_ _ _ _ _ _ L J=>by obtain⟨U,rfl⟩:=ln1 J;rfl
  exact⟨f,_,WT F G Y (PySem.W.mg_of X N a) 3,Y,kp,PySem.W.mg_of X N a⟩
 have a5:Fn l.prog w K mg base 7 "_law_turning" ["_law_deck","_law_code","_law_wood_here"] (Xz K):=d20.fn X N (λf fd F=>OG F G rD rT rL rA rR rB) λ_ _ _ _ _ _ L J=>by obtain⟨U,a2,a3,rfl⟩:=ln3 J;rfl
 have a6:Fn l.prog w K mg base 1 "_law_copy" ["_law_turning_here"] (XB K):=d22.fn X N (λf fd F=>NR F G) λ_ _ _ _ _ _ L J=>by obtain⟨U,rfl⟩:=ln1 J;rfl
 have ah:Fn l.prog w K mg base 1 "_law_whole" ["_law_found"] Uc:=d23.fn X N (λf fd F=>MI F G) λ_ _ _ _ _ _ L J=>by obtain⟨U,rfl⟩:=ln1 J;rfl
 have ai:Fn l.prog w K mg base 2 "_law_rule_of" ["_law_turning_here","_law_mode","_law_name_here"] (Ws K):=d24.fn X N (λf fd F=>P5 F G rR) λ_ _ _ _ _ _ L J=>by obtain⟨U,a2,a3,rfl⟩:=ln3 J;rfl
 have a7:Fn l.prog w K mg base 15 "_law_made" ["_law_turning_here","_law_mode","_law_tree_here"] (Ue K 12):=by
  obtain⟨f,oc,od,kV,aa,pm,an,ab,ct,ac,a,Z,c,kp⟩:=d25.ex;have F:=QT (st:=Xd) Z c kp;have Y:Binds K _ ["_law_turning_here","_law_mode","_law_tree_here"] []:=F.binds λ_ _ _ _ _ _ L J=>by obtain⟨U,a2,a3,rfl⟩:=ln3 J;rfl
  obtain⟨f2,a8,a9,ba,ap,bb,bc,aq,bd,ar,a2,ad,c2,ae⟩:=d26.ex;have F2:=QT (st:=sMB) ad c2 ae;have af:Binds K _ ["_law_turning_here","_law_term_here","_law_tree_here"] []:=F2.binds λ_ _ _ _ _ _ L J=>by obtain⟨U,a2,a3,rfl⟩:=ln3 J;rfl
  exact⟨f,_,(Jj F F2 G ai Y af (PySem.W.mg_of X N a) (PySem.W.mg_of X N a2) 12).1,Y,kp,PySem.W.mg_of X N a⟩
 have be:Fn l.prog w K mg base 17 "_law_made_by" ["_law_turning_here","_law_term_here","_law_tree_here"] (XF K 14):=by
  obtain⟨f,oc,od,kV,aa,pm,an,ab,ct,ac,a,Z,c,kp⟩:=d26.ex;have F:=QT (st:=sMB) Z c kp;have Y:Binds K _ ["_law_turning_here","_law_term_here","_law_tree_here"] []:=F.binds λ_ _ _ _ _ _ L J=>by obtain⟨U,a2,a3,rfl⟩:=ln3 J;rfl
  obtain⟨f2,a8,a9,ba,ap,bb,bc,aq,bd,ar,a2,ad,c2,ae⟩:=d25.ex;have F2:=QT (st:=Xd) ad c2 ae;have af:Binds K _ ["_law_turning_here","_law_mode","_law_tree_here"] []:=F2.binds λ_ _ _ _ _ _ L J=>by obtain⟨U,a2,a3,rfl⟩:=ln3 J;rfl
  exact⟨f,_,(Jj F2 F G ai af Y (PySem.W.mg_of X N a2) (PySem.W.mg_of X N a) 14).2,Y,kp,PySem.W.mg_of X N a⟩
 have aj:Fn l.prog w K mg base 5 "_law_tree" ["_law_deck","_law_wood_here","_law_kind","_law_deep"] (ZV K 3):=by
  obtain⟨f,oc,od,kV,aa,pm,an,ab,ct,ac,a,Z,c,kp⟩:=d27.ex;have F:=QT (st:=J7) Z c kp;have Y:Binds K _ ["_law_deck","_law_wood_here","_law_kind","_law_deep"] []:=F.binds λ_ _ _ _ _ _ L J=>by obtain⟨U,a2,a3,a4,rfl⟩:=ln4 J;rfl
  exact⟨f,_,Wo F G rD rK rR Y (PySem.W.mg_of X N a) 3,Y,kp,PySem.W.mg_of X N a⟩
 have ak:Fn l.prog w K mg base 18 "_law_outcome" ["_law_turning_here","_law_tree_here"] (Uy K 14):=d28.fn X N (λf fd F=>OE F G be) λ_ _ _ _ _ _ L J=>by obtain⟨U,a2,rfl⟩:=ln2 J;rfl
 have bf:Fn l.prog w K mg base 9 "_law_names_in" ["_law_tree_here"] (U8 K 8):=by
  obtain⟨f,oc,od,kV,aa,pm,an,ab,ct,ac,a,Z,c,kp⟩:=d29.ex;have F:=QT (st:=MZ) Z c kp;have Y:Binds K _ ["_law_tree_here"] []:=F.binds λ_ _ _ _ _ _ L J=>by obtain⟨U,rfl⟩:=ln1 J;rfl
  exact⟨f,_,Gz F G Y (PySem.W.mg_of X N a) 8,Y,kp,PySem.W.mg_of X N a⟩
 have bg:Fn l.prog w K mg base 51 "_law_plain_tree" ["_law_found"] (YC K 50):=by
  obtain⟨f,oc,od,kV,aa,pm,an,ab,ct,ac,a,Z,c,kp⟩:=d36.ex;have F:=QT (st:=JB) Z c kp;have Y:Binds K _ ["_law_found"] []:=F.binds λ_ _ _ _ _ _ L J=>by obtain⟨U,rfl⟩:=ln1 J;rfl
  exact⟨f,_,JS F G ah Y (PySem.W.mg_of X N a) 50,Y,kp,PySem.W.mg_of X N a⟩
 have bh:Fn l.prog w K mg base 52 "_law_is_want" ["_law_found"] (Nl K 50):=d37.fn X N (λf fd F=>P3 F G ah bg) λ_ _ _ _ _ _ L J=>by obtain⟨U,rfl⟩:=ln1 J;rfl
 have bi:Fn l.prog w K mg base 19 "_law_small" ["_law_deck","_law_turning_here"] (US K):=d35.fn X N (λf fd F=>Nq F G aj bf ak) λ_ _ _ _ _ _ L J=>by obtain⟨U,a2,rfl⟩:=ln2 J;rfl
 have rNe:Fn l.prog w K mg base 3 "_law_need" ["_law_term_here","_law_tree_here"] (YV K 3):=by
  obtain⟨f,oc,od,kV,aa,pm,an,ab,ct,ac,a,Z,c,kp⟩:=d30.ex;have F:=QT (st:=Wu) Z c kp;have Y:Binds K _ ["_law_term_here","_law_tree_here"] []:=F.binds λ_ _ _ _ _ _ L J=>by obtain⟨U,a2,rfl⟩:=ln2 J;rfl
  exact⟨f,_,Wz F G Y (PySem.W.mg_of X N a) 3,Y,kp,PySem.W.mg_of X N a⟩
 have bj:Fn l.prog w K mg base 3 "_law_stands" ["_law_term_here","_law_tree_here","_law_mark_here"] (ZM K 3):=by
  obtain⟨f,oc,od,kV,aa,pm,an,ab,ct,ac,a,Z,c,kp⟩:=d31.ex;have F:=QT (st:=YZ) Z c kp;have Y:Binds K _ ["_law_term_here","_law_tree_here","_law_mark_here"] []:=F.binds λ_ _ _ _ _ _ L J=>by obtain⟨U,a2,a3,rfl⟩:=ln3 J;rfl
  exact⟨f,_,JI F G Y (PySem.W.mg_of X N a) 3,Y,kp,PySem.W.mg_of X N a⟩
 have al:Fn l.prog w K mg base 5 "_law_wants" ["_law_kinds","_law_terms","_law_trees"] (Y3 K):=d32.fn X N (λf fd F=>MY F G rNe bj) λ_ _ _ _ _ _ L J=>by obtain⟨U,a2,a3,rfl⟩:=ln3 J;rfl
 have bn:Fn l.prog w K mg base 6 "_law_handed_on" ["_law_turning_here","_law_want_here","_law_j"] (YY K):=d33.fn X N (λf fd F=>Lm F G rR al) λ_ _ _ _ _ _ L J=>by obtain⟨U,a2,a3,rfl⟩:=ln3 J;rfl
 have am:Fn l.prog w K mg base 10 "_law_spoiled" ["_law_deck","_law_code","_law_tree_here"] (Zv K 9):=by
  obtain⟨f,oc,od,kV,aa,pm,an,ab,ct,ac,a,Z,c,kp⟩:=d34.ex;have F:=QT (st:=YR) Z c kp;have Y:Binds K _ ["_law_deck","_law_code","_law_tree_here"] []:=F.binds λ_ _ _ _ _ _ L J=>by obtain⟨U,a2,a3,rfl⟩:=ln3 J;rfl
  exact⟨f,_,Xi F G rD rN Y (PySem.W.mg_of X N a) 9,Y,kp,PySem.W.mg_of X N a⟩
 have ao:Fn l.prog w K mg base 53 "_law_told" ["_law_found","_law_due"] (Ui K):=d38.fn X N (λf fd F=>Og F G bh) λ_ _ _ _ _ _ L J=>by obtain⟨U,a2,rfl⟩:=ln2 J;rfl
 have bo:Fn l.prog w K mg base 16 "_law_want" ["_law_deck","_law_code","_law_turning_here","_law_kind"] (XW K):=d39.fn X N (λf fd F=>N7 F G rD aj a7 am) λ_ _ _ _ _ _ L J=>by obtain⟨U,a2,a3,a4,rfl⟩:=ln4 J;rfl
 have bp:Fn l.prog w K mg base 54 "_law_rows_hand_on" ["_law_turning_here","_law_handed","_law_want_here","_law_name_here"] (VV K):=d40.fn X N (λf fd F=>PQ F G rR bn az ao) λ_ _ _ _ _ _ L J=>by obtain⟨U,a2,a3,a4,rfl⟩:=ln4 J;rfl
 exact Ri F G rU rD a5 rW a6 bo bp rN ak bi am a0 al ao
theorem walk{l:PySem.W.OpenLaw}{q:Program}{loose:List Str}{XP:(Str->Option Value)->Heap->Prop}{YP:World->Heap->Prop}{d:DefRec}{K:Params->Fg}(hn:l.most=some 63)(hdf:d.params.defaults=[])
 (hY:∀(w:World)(h:Heap),YP w h->(K w.params).In h)
 (F:∀(w:World)(mg:Str->Option Value)(fa:Addr)(h:Heap),(K w.params).In h->h.Ns mainGlobals mg->mg d.name=some (.ref fa)->
  ∃fd:FuncData,(∀(s:Shared)(u:Value),BindsTo s fd ⟨[u],[]⟩ [("_law_script",u)])/\∀base:Heap,(K w.params).In base->base.Ns mainGlobals mg->FnOk l.prog w (K w.params) mg base CX0 55 fa fd ["_law_script"] (GE (K w.params))):
 PySem.W.WalkO q loose XP YP l.row.toRowW d [] (λf vs=>PySem.call f vs):=
 L2.walk_of (n:=63) (k:=55) (x:="_law_script") (CX:=λ_=>CX0) (sp:=λw=>GE (K w.params)) hn (12:) hdf ⟨rfl,by decide,by decide⟩ hY F (λ_ _ a G J M L=>⟨a,G,rfl,L,J,λ_=>rfl⟩) λ_ _ _ _ _ z=>z
end K70
section
open PySem
def K70.vS(x:String)(n:Nat):Value:=.str (Str.ofString x) n
def K70.mN:Value:=.str (Str.ofString "law_turnery_k70_wants_handed_on") 328
def K70.vR(a:Nat):Value:=.ref a
def K70.vI(i:Int)(n:Nat):Value:=.int i n
def K70.hE(P:Params)(x:String)(n:Nat)(v:Value):DictEntry:=⟨PyData.keyHash P (Str.ofString x),.str (Str.ofString x) n,v⟩
def K70.vN:Value:=.none
def K70.vF:Value:=.type "function"
def K70.vT:Value:=.bool true
def K70.i0:Value:=.int 0 0
def K70.i3:Value:=.int 3 0
def K70.i1:Value:=.int 181 0
def K70.cP(k:Nat):Value:=.str (Str.ofString "/claim/cut.py") k
def K70.oT(x:Array Value):Obj:=Obj.mk (Value.type "tuple") none (Data.seq x) #[]
def K70.oC(x:Array Value):Obj:=Obj.mk (Value.type "code") none (Data.fields x) #[]
def K70.oF(c:Value)(x y:String)(s:Stmt)(k:Nat)(pm cd:Value):Obj:=Obj.mk c none (Data.func (FuncData.mk (Str.ofString x) (Str.ofString y) (L2.defArgs s) (.stmts (L2.defBody s)) (L2.defScope s) k [] Value.none Value.none Value.none pm none cd Value.none 0)) #[]
open K70
def K70.oE:Obj:={ cls:=vN,data:=Data.fields #[] }
def K70.x3(P:Params):Obj:=Obj.mk (Value.type "dict") none (Data.dict #[hE P "__name__" 165 mN,hE P "__doc__" 166 vN,hE P "__package__" 167 vN,hE P "__loader__" 168 (Value.builtin "__main__.__loader__#opaque"),hE P "__spec__" 169 vN,hE P "__annotations__" 170 (vR 6),hE P "__builtins__" 171 (vR 4),hE P "__file__" 173 (cP 172),hE P "__cached__" 174 vN,hE P "is_call" 195 (vR 21),hE P "mark_put" 203 (vR 28),hE P "rows_of" 213 (vR 35),hE P "row_of" 222 (vR 42),hE P "rule_of" 237 (vR 49),hE P "wanted" 248 (vR 56),hE P "handed_on" 258 (vR 63),hE P "fit_of" 271 (vR 70),hE P "Fit" 321 (vR 102),hE P "pairs_of" 327 (vR 111),hE P "_law_numbers" 335 (vR 116),hE P "_law_draw" 343 (vR 123),hE P "_law_mark" 351 (vR 130),hE P "_law_name" 366 (vR 137),hE P "_law_wood" 372 (vR 142),hE P "_law_rows" 378 (vR 147),hE P "_law_term" 393 (vR 154),hE P "_law_changed" 399 (vR 159),hE P "_law_calls" 410 (vR 166),hE P "_law_rule" 421 (vR 173),hE P "_law_turning" 439 (vR 180),hE P "_law_bare" 445 (vR 185),hE P "_law_copy" 451 (vR 190),hE P "_law_whole" 458 (vR 197),hE P "_law_rule_of" 464 (vR 202),hE P "_law_made" 473 (vR 209),hE P "_law_made_by" 479 (vR 214),hE P "_law_tree" 485 (vR 219),hE P "_law_outcome" 493 (vR 226),hE P "_law_names_in" 499 (vR 231),hE P "_law_need" 510 (vR 238),hE P "_law_stands" 523 (vR 245),hE P "_law_wants" 529 (vR 250),hE P "_law_handed_on" 535 (vR 255),hE P "_law_spoiled" 547 (vR 262),hE P "_law_small" 557 (vR 269),hE P "_law_plain_tree" 563 (vR 274),hE P "_law_is_want" 571 (vR 281),hE P "_law_told" 580 (vR 288),hE P "_law_want" 586 (vR 293),hE P "_law_rows_hand_on" 602 (vR 300),hE P "law" 618 (vR 307)] 51) #[]
def K70.x20(P:Params):Obj:=oC #[vS "is_call" 189,vS "is_call" 190,cP 191,vI 2 0,vI 1 0,i0,i0,i3,vR 15,vT,i1,vR 16,vN,vR 17,vR 18,vR 19,vI 193 0,vI 2 0,cP 194]
def K70.x21(P:Params):Obj:=oF vF "is_call" "is_call" (top 1) 3 (vS "turnery.terms" 187) (vR 20)
def K70.x27(P:Params):Obj:=oC #[vS "mark_put" 196,vS "mark_put" 197,cP 198,vI 4 0,vI 2 0,i0,i0,i3,vR 22,vT,i1,vR 23,vN,vR 24,vR 25,vR 26,vI 201 0,vI 4 0,cP 202]
def K70.x28(P:Params):Obj:=oF vF "mark_put" "mark_put" (top 2) 3 (vS "turnery.terms" 187) (vR 27)
def K70.x34(P:Params):Obj:=oC #[vS "rows_of" 206,vS "rows_of" 207,cP 208,vI 7 0,vI 2 0,i0,i0,i3,vR 29,vT,i1,vR 30,vN,vR 31,vR 32,vR 33,vI 211 0,vI 7 0,cP 212]
def K70.x35(P:Params):Obj:=oF vF "rows_of" "rows_of" (top 4) 3 (vS "turnery.woods" 204) (vR 34)
def K70.x38(P:Params):Obj:=oT #[vS "wood" 217,vS "kind" 218,vS "name" 219]
def K70.x41(P:Params):Obj:=oC #[vS "row_of" 214,vS "row_of" 215,cP 216,vI 9 0,vI 3 0,i0,i0,i3,vR 36,vT,i1,vR 37,vN,vR 38,vR 39,vR 40,vI 220 0,vI 9 0,cP 221]
def K70.x42(P:Params):Obj:=oF vF "row_of" "row_of" (top 5) 3 (vS "turnery.woods" 204) (vR 41)
def K70.x45(P:Params):Obj:=oT #[vS "turning" 228,vS "mode" 229,vS "name" 230,vS "kind" 231,vS "rules" 232,vS "row" 233,vS "rule" 234]
def K70.x48(P:Params):Obj:=oC #[vS "rule_of" 225,vS "rule_of" 226,cP 227,vI 12 0,vI 3 0,i0,i0,i3,vR 43,vT,i1,vR 44,vN,vR 45,vR 46,vR 47,vI 235 0,vI 12 0,cP 236]
def K70.x49(P:Params):Obj:=oF vF "rule_of" "rule_of" (top 7) 3 (vS "turnery.turnings" 223) (vR 48)
def K70.x52(P:Params):Obj:=oT #[vS "turning" 243,vS "tree" 244,vS "fit" 245]
def K70.x55(P:Params):Obj:=oC #[vS "wanted" 240,vS "wanted" 241,cP 242,vI 20 0,vI 2 0,i0,i0,i3,vR 50,vT,i1,vR 51,vN,vR 52,vR 53,vR 54,vI 246 0,vI 20 0,cP 247]
def K70.x56(P:Params):Obj:=oF vF "wanted" "wanted" (top 9) 3 (18:) (vR 55)
def K70.x59(P:Params):Obj:=oT #[vS "turning" 252,vS "want" 253,vS "name" 254,vS "fit" 255]
def K70.x62(P:Params):Obj:=oC #[vS "handed_on" 249,vS "handed_on" 250,cP 251,vI 23 0,vI 3 0,i0,i0,i3,vR 57,vT,i1,vR 58,vN,vR 59,vR 60,vR 61,vI 256 0,vI 23 0,cP 257]
def K70.x63(P:Params):Obj:=oF vF "handed_on" "handed_on" (top 10) 3 (18:) (vR 62)
def K70.x66(P:Params):Obj:=oT #[vS "turning" 262,vS "want" 263,vS "name" 264,vS "kinds" 265,vS "fit" 266,vS "mode" 267,vS "tree" 268]
def K70.x69(P:Params):Obj:=oC #[vS "fit_of" 259,vS "fit_of" 260,cP 261,vI 26 0,vI 3 0,i0,i0,i3,vR 64,vT,i1,vR 65,vN,vR 66,vR 67,vR 68,vI 269 0,vI 26 0,cP 270]
def K70.x70(P:Params):Obj:=oF vF "fit_of" "fit_of" (top 11) 3 (18:) (vR 69)
def K70.x81(P:Params):Obj:=oC #[vS "__init__" 284,vS "Fit.__init__" 285,cP 286,vI 37 0,vI 2 0,i0,i0,i3,vR 78,vT,i1,vR 79,vN,vN,vN,vR 80,vI 287 0,vI 37 0,cP 288]
def K70.x82(P:Params):Obj:=oF vF "__init__" "Fit.__init__" (L2.inClass (top 12) 0) 3 (18:) (vR 81)
def K70.x86(P:Params):Obj:=oC #[vS "goes_onto" 290,vS "Fit.goes_onto" 291,cP 292,vI 42 0,vI 3 0,i0,i0,i3,vR 83,vT,i1,vR 84,vN,vN,vN,vR 85,vI 293 0,vI 42 0,cP 294]
def K70.x87(P:Params):Obj:=oF vF "goes_onto" "Fit.goes_onto" (L2.inClass (top 12) 1) 3 (18:) (vR 86)
def K70.x90(P:Params):Obj:=oT #[vS "self" 299,vS "term" 300,vS "mark" 301]
def K70.x93(P:Params):Obj:=oC #[vS "mark_goes" 296,vS "Fit.mark_goes" 297,cP 298,vI 49 0,vI 3 0,i0,i0,i3,vR 88,vT,i1,vR 89,vN,vR 90,vR 91,vR 92,vI 302 0,vI 49 0,cP 303]
def K70.x94(P:Params):Obj:=oF vF "mark_goes" "Fit.mark_goes" (L2.inClass (top 12) 2) 3 (18:) (vR 93)
def K70.x98(P:Params):Obj:=oC #[vS "handed" 305,vS "Fit.handed" 306,cP 307,vI 54 0,vI 1 0,i0,i0,i3,vR 95,vT,i1,vR 96,vN,vN,vN,vR 97,vI 308 0,vI 54 0,cP 309]
def K70.x99(P:Params):Obj:=oF vF "handed" "Fit.handed" (L2.inClass (top 12) 3) 3 (18:) (vR 98)
def K70.x100(P:Params):Obj:=oT #[vS "kinds" 311,vS "mark" 312,vS "needed" 313]
def K70.x101(P:Params):Obj:=Obj.mk (Value.type "dict") none (Data.dict #[hE P "__module__" 279 (18:),hE P "__firstlineno__" 283 (vI 35 282),hE P "__init__" 289 (vR 82),hE P "goes_onto" 295 (vR 87),hE P "mark_goes" 304 (vR 94),hE P "handed" 310 (vR 99),hE P "__static_attributes__" 314 (vR 100),hE P "__dict__" 316 (vR 103),hE P "__weakref__" 318 (vR 104),hE P "__doc__" 319 vN] 4) #[]
def K70.x102(P:Params):Obj:=Obj.mk (Value.type "type") none (Data.cls (ClassData.mk (Str.ofString "Fit") [Value.type "object"] [vR 102,Value.type "object"] 101 (Str.ofString "Fit") true [] [] false none false)) #[none,none,some (vS "Fit" 272),some (vS "Fit" 280),some (Value.builtin "object.__new__"),some (Value.bool true)]
def K70.x103(P:Params):Obj:=Obj.mk (Value.type "getset_descriptor") none (Data.fields #[vS "__dict__" 315,vR 102,Value.builtin "function.__dict__",Value.builtin "function.__dict__#set"]) #[]
def K70.x104(P:Params):Obj:=Obj.mk (Value.type "getset_descriptor") none (Data.fields #[vS "__weakref__" 317,vR 102,Value.builtin "ExceptionGroup.__weakref__",vN]) #[]
def K70.x110(P:Params):Obj:=oC #[vS "pairs_of" 322,vS "pairs_of" 323,cP 324,vI 56 0,vI 1 0,i0,i0,i3,vR 107,vT,i1,vR 108,vN,vN,vN,vR 109,vI 325 0,vI 56 0,cP 326]
def K70.x111(P:Params):Obj:=oF vF "pairs_of" "pairs_of" (top 13) 3 (18:) (vR 110)
def K70.x115(P:Params):Obj:=oC #[vS "_law_numbers" 330,vS "_law_numbers" 331,cP 332,vI 59 0,vI 2 0,i0,i0,i3,vR 112,vT,i1,vR 113,vN,vN,vN,vR 114,vI 333 0,vI 59 0,cP 334]
def K70.x116(P:Params):Obj:=oF vF "_law_numbers" "_law_numbers" (top 15) 3 mN (vR 115)
def K70.x119(P:Params):Obj:=oT #[vS "_law_deck" 339,vS "_law_most" 340]
def K70.x122(P:Params):Obj:=oC #[vS "_law_draw" 336,vS "_law_draw" 337,cP 338,vI 66 0,vI 2 0,i0,i0,i3,vR 117,vT,i1,vR 118,vN,vR 119,vR 120,vR 121,vI 341 0,vI 66 0,cP 342]
def K70.x123(P:Params):Obj:=oF vF "_law_draw" "_law_draw" (top 16) 3 mN (vR 122)
def K70.x126(P:Params):Obj:=oT #[vS "_law_deck" 347,vS "_law_number" 348]
def K70.x129(P:Params):Obj:=oC #[vS "_law_mark" 344,vS "_law_mark" 345,cP 346,vI 70 0,vI 1 0,i0,i0,i3,vR 124,vT,i1,vR 125,vN,vR 126,vR 127,vR 128,vI 349 0,vI 70 0,cP 350]
def K70.x130(P:Params):Obj:=oF vF "_law_mark" "_law_mark" (top 17) 3 mN (vR 129)
def K70.x133(P:Params):Obj:=oT #[vS "_law_code" 355,vS "_law_k" 356,vS "_law_letters" 357,vS "_law_first" 358,vS "_law_long" 359,vS "_law_told_here" 360,vS "_law_name_here" 361,vS "_law_j" 362,vS "_law_step" 363]
def K70.x136(P:Params):Obj:=oC #[vS "_law_name" 352,vS "_law_name" 353,cP 354,vI 75 0,vI 2 0,i0,i0,i3,vR 131,vT,i1,vR 132,vN,vR 133,vR 134,vR 135,vI 364 0,vI 75 0,cP 365]
def K70.x137(P:Params):Obj:=oF vF "_law_name" "_law_name" (top 18) 3 mN (vR 136)
def K70.x141(P:Params):Obj:=oC #[vS "_law_wood" 367,vS "_law_wood" 368,cP 369,vI 89 0,vI 2 0,i0,i0,i3,vR 138,vT,i1,vR 139,vN,vN,vN,vR 140,vI 370 0,vI 89 0,cP 371]
def K70.x142(P:Params):Obj:=oF vF "_law_wood" "_law_wood" (top 19) 3 mN (vR 141)
def K70.x146(P:Params):Obj:=oC #[vS "_law_rows" 373,vS "_law_rows" 374,cP 375,vI 100 0,vI 2 0,i0,i0,i3,vR 143,vT,i1,vR 144,vN,vN,vN,vR 145,vI 376 0,vI 100 0,cP 377]
def K70.x147(P:Params):Obj:=oF vF "_law_rows" "_law_rows" (top 20) 3 mN (vR 146)
def K70.x150(P:Params):Obj:=oT #[vS "_law_deck" 382,vS "_law_code" 383,vS "_law_calls_here" 384,vS "_law_deep" 385,vS "_law_pick" 386,vS "_law_parts" 387,vS "_law_count" 388,vS "_law_k" 389,vS "_law_name_here" 390]
def K70.x153(P:Params):Obj:=oC #[vS "_law_term" 379,vS "_law_term" 380,cP 381,vI 102 0,vI 4 0,i0,i0,i3,vR 148,vT,i1,vR 149,vN,vR 150,vR 151,vR 152,vI 391 0,vI 102 0,cP 392]
def K70.x154(P:Params):Obj:=oF vF "_law_term" "_law_term" (top 21) 3 mN (vR 153)
def K70.x158(P:Params):Obj:=oC #[vS "_law_changed" 394,vS "_law_changed" 395,cP 396,vI 113 0,vI 4 0,i0,i0,i3,vR 155,vT,i1,vR 156,vN,vN,vN,vR 157,vI 397 0,vI 113 0,cP 398]
def K70.x159(P:Params):Obj:=oF vF "_law_changed" "_law_changed" (top 22) 3 mN (vR 158)
def K70.x162(P:Params):Obj:=oT #[vS "_law_kinds" 403,vS "_law_branches" 404,vS "_law_found" 405,vS "_law_k" 406,vS "_law_j" 407]
def K70.x165(P:Params):Obj:=oC #[vS "_law_calls" 400,vS "_law_calls" 401,cP 402,vI 122 0,vI 2 0,i0,i0,i3,vR 160,vT,i1,vR 161,vN,vR 162,vR 163,vR 164,vI 408 0,vI 122 0,cP 409]
def K70.x166(P:Params):Obj:=oF vF "_law_calls" "_law_calls" (top 23) 3 mN (vR 165)
def K70.x169(P:Params):Obj:=oT #[vS "_law_deck" 414,vS "_law_code" 415,vS "_law_base" 416,vS "_law_calls_here" 417,vS "_law_way" 418]
def K70.x172(P:Params):Obj:=oC #[vS "_law_rule" 411,vS "_law_rule" 412,cP 413,vI 129 0,vI 4 0,i0,i0,i3,vR 167,vT,i1,vR 168,vN,vR 169,vR 170,vR 171,vI 419 0,vI 129 0,cP 420]
def K70.x173(P:Params):Obj:=oF vF "_law_rule" "_law_rule" (top 24) 3 mN (vR 172)
def K70.x176(P:Params):Obj:=oT #[vS "_law_deck" 425,vS "_law_code" 426,vS "_law_wood_here" 427,vS "_law_kinds" 428,vS "_law_k" 429,vS "_law_modes" 430,vS "_law_kind" 431,vS "_law_base" 432,vS "_law_rules" 433,vS "_law_name_here" 434,vS "_law_branches" 435,vS "_law_start" 436]
def K70.x179(P:Params):Obj:=oC #[vS "_law_turning" 422,vS "_law_turning" 423,cP 424,vI 136 0,vI 3 0,i0,i0,i3,vR 174,vT,i1,vR 175,vN,vR 176,vR 177,vR 178,vI 437 0,vI 136 0,cP 438]
def K70.x180(P:Params):Obj:=oF vF "_law_turning" "_law_turning" (top 25) 3 mN (vR 179)
def K70.x184(P:Params):Obj:=oC #[vS "_law_bare" 440,vS "_law_bare" 441,cP 442,vI 149 0,vI 1 0,i0,i0,i3,vR 181,vT,i1,vR 182,vN,vN,vN,vR 183,vI 443 0,vI 149 0,cP 444]
def K70.x185(P:Params):Obj:=oF vF "_law_bare" "_law_bare" (top 26) 3 mN (vR 184)
def K70.x189(P:Params):Obj:=oC #[vS "_law_copy" 446,vS "_law_copy" 447,cP 448,vI 153 0,vI 1 0,i0,i0,i3,vR 186,vT,i1,vR 187,vN,vN,vN,vR 188,vI 449 0,vI 153 0,cP 450]
def K70.x190(P:Params):Obj:=oF vF "_law_copy" "_law_copy" (top 27) 3 mN (vR 189)
def K70.x196(P:Params):Obj:=oC #[vS "_law_whole" 452,vS "_law_whole" 453,cP 454,vI 156 0,vI 1 0,i0,i0,i3,vR 191,vT,i1,vR 192,vN,vR 193,vR 194,vR 195,vI 456 0,vI 156 0,cP 457]
def K70.x197(P:Params):Obj:=oF vF "_law_whole" "_law_whole" (top 28) 3 mN (vR 196)
def K70.x201(P:Params):Obj:=oC #[vS "_law_rule_of" 459,vS "_law_rule_of" 460,cP 461,vI 158 0,vI 3 0,i0,i0,i3,vR 198,vT,i1,vR 199,vN,vN,vN,vR 200,vI 462 0,vI 158 0,cP 463]
def K70.x202(P:Params):Obj:=oF vF "_law_rule_of" "_law_rule_of" (top 29) 3 mN (vR 201)
def K70.x205(P:Params):Obj:=oT #[vS "_law_turning_here" 468,vS "_law_mode" 469,vS "_law_tree_here" 470]
def K70.x208(P:Params):Obj:=oC #[vS "_law_made" 465,vS "_law_made" 466,cP 467,vI 161 0,vI 3 0,i0,i0,i3,vR 203,vT,i1,vR 204,vN,vR 205,vR 206,vR 207,vI 471 0,vI 161 0,cP 472]
def K70.x209(P:Params):Obj:=oF vF "_law_made" "_law_made" (top 30) 3 mN (vR 208)
def K70.x213(P:Params):Obj:=oC #[vS "_law_made_by" 474,vS "_law_made_by" 475,cP 476,vI 163 0,vI 3 0,i0,i0,i3,vR 210,vT,i1,vR 211,vN,vN,vN,vR 212,vI 477 0,vI 163 0,cP 478]
def K70.x214(P:Params):Obj:=oF vF "_law_made_by" "_law_made_by" (top 31) 3 mN (vR 213)
def K70.x218(P:Params):Obj:=oC #[vS "_law_tree" 480,vS "_law_tree" 481,cP 482,vI 168 0,vI 4 0,i0,i0,i3,vR 215,vT,i1,vR 216,vN,vN,vN,vR 217,vI 483 0,vI 168 0,cP 484]
def K70.x219(P:Params):Obj:=oF vF "_law_tree" "_law_tree" (top 32) 3 mN (vR 218)
def K70.x222(P:Params):Obj:=oT #[vS "_law_turning_here" 489,vS "_law_tree_here" 490]
def K70.x225(P:Params):Obj:=oC #[vS "_law_outcome" 486,vS "_law_outcome" 487,cP 488,vI 175 0,vI 2 0,i0,i0,i3,vR 220,vT,i1,vR 221,vN,vR 222,vR 223,vR 224,vI 491 0,vI 175 0,cP 492]
def K70.x226(P:Params):Obj:=oF vF "_law_outcome" "_law_outcome" (top 33) 3 mN (vR 225)
def K70.x230(P:Params):Obj:=oC #[vS "_law_names_in" 494,vS "_law_names_in" 495,cP 496,vI 177 0,vI 1 0,i0,i0,i3,vR 227,vT,i1,vR 228,vN,vN,vN,vR 229,vI 497 0,vI 177 0,cP 498]
def K70.x231(P:Params):Obj:=oF vF "_law_names_in" "_law_names_in" (top 34) 3 mN (vR 230)
def K70.x234(P:Params):Obj:=oT #[vS "_law_term_here" 503,vS "_law_tree_here" 504,vS "_law_part" 505,vS "_law_branch" 506,vS "_law_need_here" 507]
def K70.x237(P:Params):Obj:=oC #[vS "_law_need" 500,vS "_law_need" 501,cP 502,vI 179 0,vI 2 0,i0,i0,i3,vR 232,vT,i1,vR 233,vN,vR 234,vR 235,vR 236,vI 508 0,vI 179 0,cP 509]
def K70.x238(P:Params):Obj:=oF vF "_law_need" "_law_need" (top 35) 3 mN (vR 237)
def K70.x241(P:Params):Obj:=oT #[vS "_law_term_here" 514,vS "_law_tree_here" 515,vS "_law_mark_here" 516,vS "_law_due" 517,vS "_law_part" 518,vS "_law_branch" 519,vS "_law_inner" 520]
def K70.x244(P:Params):Obj:=oC #[vS "_law_stands" 511,vS "_law_stands" 512,cP 513,vI 189 0,vI 3 0,i0,i0,i3,vR 239,vT,i1,vR 240,vN,vR 241,vR 242,vR 243,vI 521 0,vI 189 0,cP 522]
def K70.x245(P:Params):Obj:=oF vF "_law_stands" "_law_stands" (top 36) 3 mN (vR 244)
def K70.x249(P:Params):Obj:=oC #[vS "_law_wants" 524,vS "_law_wants" 525,cP 526,vI 201 0,vI 3 0,i0,i0,i3,vR 246,vT,i1,vR 247,vN,vN,vN,vR 248,vI 527 0,vI 201 0,cP 528]
def K70.x250(P:Params):Obj:=oF vF "_law_wants" "_law_wants" (top 37) 3 mN (vR 249)
def K70.x254(P:Params):Obj:=oC #[vS "_law_handed_on" 530,vS "_law_handed_on" 531,cP 532,vI 217 0,vI 3 0,i0,i0,i3,vR 251,vT,i1,vR 252,vN,vN,vN,vR 253,vI 533 0,vI 217 0,cP 534]
def K70.x255(P:Params):Obj:=oF vF "_law_handed_on" "_law_handed_on" (top 38) 3 mN (vR 254)
def K70.x258(P:Params):Obj:=oT #[vS "_law_deck" 539,vS "_law_code" 540,vS "_law_tree_here" 541,vS "_law_k" 542,vS "_law_inner" 543,vS "_law_way" 544]
def K70.x261(P:Params):Obj:=oC #[vS "_law_spoiled" 536,vS "_law_spoiled" 537,cP 538,vI 221 0,vI 3 0,i0,i0,i3,vR 256,vT,i1,vR 257,vN,vR 258,vR 259,vR 260,vI 545 0,vI 221 0,cP 546]
def K70.x262(P:Params):Obj:=oF vF "_law_spoiled" "_law_spoiled" (top 39) 3 mN (vR 261)
def K70.x265(P:Params):Obj:=oT #[vS "_law_deck" 551,vS "_law_turning_here" 552,vS "_law_deep" 553,vS "_law_tree_here" 554]
def K70.x268(P:Params):Obj:=oC #[vS "_law_small" 548,vS "_law_small" 549,cP 550,vI 236 0,vI 2 0,i0,i0,i3,vR 263,vT,i1,vR 264,vN,vR 265,vR 266,vR 267,vI 555 0,vI 236 0,cP 556]
def K70.x269(P:Params):Obj:=oF vF "_law_small" "_law_small" (top 40) 3 mN (vR 268)
def K70.x273(P:Params):Obj:=oC #[vS "_law_plain_tree" 558,vS "_law_plain_tree" 559,cP 560,vI 242 0,vI 1 0,i0,i0,i3,vR 270,vT,i1,vR 271,vN,vN,vN,vR 272,vI 561 0,vI 242 0,cP 562]
def K70.x274(P:Params):Obj:=oF vF "_law_plain_tree" "_law_plain_tree" (top 41) 3 mN (vR 273)
def K70.x277(P:Params):Obj:=oT #[vS "_law_found" 567,vS "_law_pair" 568]
def K70.x280(P:Params):Obj:=oC #[vS "_law_is_want" 564,vS "_law_is_want" 565,cP 566,vI 248 0,vI 1 0,i0,i0,i3,vR 275,vT,i1,vR 276,vN,vR 277,vR 278,vR 279,vI 569 0,vI 248 0,cP 570]
def K70.x281(P:Params):Obj:=oF vF "_law_is_want" "_law_is_want" (top 42) 3 mN (vR 280)
def K70.x284(P:Params):Obj:=oT #[vS "_law_found" 575,vS "_law_due" 576,vS "_law_want_here" 577]
def K70.x287(P:Params):Obj:=oC #[vS "_law_told" 572,vS "_law_told" 573,cP 574,vI 259 0,vI 2 0,i0,i0,i3,vR 282,vT,i1,vR 283,vN,vR 284,vR 285,vR 286,vI 578 0,vI 259 0,cP 579]
def K70.x288(P:Params):Obj:=oF vF "_law_told" "_law_told" (top 43) 3 mN (vR 287)
def K70.x292(P:Params):Obj:=oC #[vS "_law_want" 581,vS "_law_want" 582,cP 583,vI 266 0,vI 4 0,i0,i0,i3,vR 289,vT,i1,vR 290,vN,vN,vN,vR 291,vI 584 0,vI 266 0,cP 585]
def K70.x293(P:Params):Obj:=oF vF "_law_want" "_law_want" (top 44) 3 mN (vR 292)
def K70.x296(P:Params):Obj:=oT #[vS "_law_turning_here" 590,vS "_law_handed" 591,vS "_law_want_here" 592,vS "_law_name_here" 593,vS "_law_given" 594,vS "_law_rows_here" 595,vS "_law_j" 596,vS "_law_due" 597,vS "_law_found" 598,vS "_law_one" 599]
def K70.x299(P:Params):Obj:=oC #[vS "_law_rows_hand_on" 587,vS "_law_rows_hand_on" 588,cP 589,vI 281 0,vI 4 0,i0,i0,i3,vR 294,vT,i1,vR 295,vN,vR 296,vR 297,vR 298,vI 600 0,vI 281 0,cP 601]
def K70.x300(P:Params):Obj:=oF vF "_law_rows_hand_on" "_law_rows_hand_on" (top 45) 3 mN (vR 299)
def K70.x303(P:Params):Obj:=oT #[vS "_law_script" 606,vS "_law_deck" 607,vS "_law_code" 608,vS "_law_turning_here" 609,vS "_law_handed" 610,vS "_law_kind" 611,vS "_law_want_here" 612,vS "_law_tree_here" 613,vS "_law_found" 614,vS "_law_due" 615]
def K70.x306(P:Params):Obj:=oC #[vS "law" 603,vS "law" 604,cP 605,vI 298 0,vI 1 0,i0,i0,i3,vR 301,vT,i1,vR 302,vN,vR 303,vR 304,vR 305,vI 616 0,vI 298 0,cP 617]
def K70.x307(P:Params):Obj:=oF vF "law" "law" (top 46) 3 mN (vR 306)
def K70.hp:Params->Fg:=λP=>[(2,Obj.mk vN none (Data.dict #[]) #[]),(3,x3 P),(15,oT #[]),(17,oT #[vS "term" 192]),(18,oT #[]),(20,x20 P),(21,x21 P),(22,oT #[]),(24,oT #[vS "term" 199,vS "mark" 200]),(25,oT #[]),(27,x27 P),(28,x28 P),(29,oT #[]),(31,oT #[vS "wood" 209,vS "kind" 210]),(32,oT #[]),(34,x34 P),(35,x35 P),(36,oT #[]),(38,x38 P),(39,oT #[]),(41,x41 P),(42,x42 P),(43,oT #[]),(45,x45 P),(46,oT #[]),(48,x48 P),(49,x49 P),(50,oT #[]),(52,x52 P),(53,oT #[]),(55,x55 P),(56,x56 P),(57,oT #[]),(59,x59 P),(60,oT #[]),(62,x62 P),(63,x63 P),(64,oT #[]),(66,x66 P),(67,oT #[]),(69,x69 P),(70,x70 P),(78,oT #[]),(81,x81 P),(82,x82 P),(83,oT #[]),(86,x86 P),(87,x87 P),(88,oT #[]),(90,x90 P),(91,oT #[]),(93,x93 P),(94,x94 P),(95,oT #[]),(98,x98 P),(99,x99 P),(100,x100 P),(101,x101 P),(102,x102 P),(103,x103 P),(104,x104 P),(107,oT #[]),(110,x110 P),(111,x111 P),(112,oT #[]),(115,x115 P),(116,x116 P),(117,oT #[]),(119,x119 P),(120,oT #[]),(122,x122 P),(123,x123 P),(124,oT #[]),(126,x126 P),(127,oT #[]),(129,x129 P),(130,x130 P),(131,oT #[]),(133,x133 P),(134,oT #[]),(136,x136 P),(137,x137 P),(138,oT #[]),(141,x141 P),(142,x142 P),(143,oT #[]),(146,x146 P),(147,x147 P),(148,oT #[]),(150,x150 P),(151,oT #[]),(153,x153 P),(154,x154 P),(155,oT #[]),(158,x158 P),(159,x159 P),(160,oT #[]),(162,x162 P),(163,oT #[]),(165,x165 P),(166,x166 P),(167,oT #[]),(169,x169 P),(170,oT #[]),(172,x172 P),(173,x173 P),(174,oT #[]),(176,x176 P),(177,oT #[]),(179,x179 P),(180,x180 P),(181,oT #[]),(184,x184 P),(185,x185 P),(186,oT #[]),(189,x189 P),(190,x190 P),(191,oT #[]),(193,oT #[vS "_law_found" 455]),(194,oT #[]),(196,x196 P),(197,x197 P),(198,oT #[]),(201,x201 P),(202,x202 P),(203,oT #[]),(205,x205 P),(206,oT #[]),(208,x208 P),(209,x209 P),(210,oT #[]),(213,x213 P),(214,x214 P),(215,oT #[]),(218,x218 P),(219,x219 P),(220,oT #[]),(222,x222 P),(223,oT #[]),(225,x225 P),(226,x226 P),(227,oT #[]),(230,x230 P),(231,x231 P),(232,oT #[]),(234,x234 P),(235,oT #[]),(237,x237 P),(238,x238 P),(239,oT #[]),(241,x241 P),(242,oT #[]),(244,x244 P),(245,x245 P),(246,oT #[]),(249,x249 P),(250,x250 P),(251,oT #[]),(254,x254 P),(255,x255 P),(256,oT #[]),(258,x258 P),(259,oT #[]),(261,x261 P),(262,x262 P),(263,oT #[]),(265,x265 P),(266,oT #[]),(268,x268 P),(269,x269 P),(270,oT #[]),(273,x273 P),(274,x274 P),(275,oT #[]),(277,x277 P),(278,oT #[]),(280,x280 P),(281,x281 P),(282,oT #[]),(284,x284 P),(285,oT #[]),(287,x287 P),(288,x288 P),(289,oT #[]),(292,x292 P),(293,x293 P),(294,oT #[]),(296,x296 P),(297,oT #[]),(299,x299 P),(300,x300 P),(301,oT #[]),(303,x303 P),(304,oT #[]),(306,x306 P),(307,x307 P)]
end
def PySem.W.Fast.tw1864527208134783538:PySem.Params->Fg:=K70.hp
theorem PySem.W.Fast.te1864527208134783538:K70.hp=PySem.W.Fast.tw1864527208134783538:=rfl
namespace PySem.W.Fast
open PySem K70
def tw1742960883315800937:Params->Obj:=λP=>oF vF "_law_plain_tree" "_law_plain_tree" (top 41) 3 mN (vR 273)
def te1742960883315800937:=@rfl _ tw1742960883315800937
def tw3547754359278717537:Params->Obj:=λP=>oF vN "_law_stands" "_law_stands" (top 36) 0 vN vN
def te3547754359278717537:=@rfl _ tw3547754359278717537
def tw15702388203795965070:Params->Obj:=λP=>oF vN "_law_rows" "_law_rows" (top 20) 0 vN vN
def te15702388203795965070:=@rfl _ tw15702388203795965070
def tw6953446394931194026:Params->Obj:=λP=>oF vF "_law_changed" "_law_changed" (top 22) 3 mN (vR 158)
def te6953446394931194026:=@rfl _ tw6953446394931194026
def tw1516676162920841724:Params->Obj:=λP=>oF vF "wanted" "wanted" (top 9) 3 (18:) (vR 55)
def te1516676162920841724:=@rfl _ tw1516676162920841724
def tw4612038677229231952:Params->Obj:=λP=>oF vN "_law_wood" "_law_wood" (top 19) 0 vN vN
def te4612038677229231952:=@rfl _ tw4612038677229231952
def tw12053996717697015646:Params->Obj:=λP=>oF vN "wanted" "wanted" (top 9) 0 vN vN
def te12053996717697015646:=@rfl _ tw12053996717697015646
def tw17639733614888325152:Params->Obj:=λP=>oF vF "_law_numbers" "_law_numbers" (top 15) 3 mN (vR 115)
def te17639733614888325152:=@rfl _ tw17639733614888325152
def tw5459606364016513140:Params->Obj:=λP=>oF vN "_law_outcome" "_law_outcome" (top 33) 0 vN vN
def te5459606364016513140:=@rfl _ tw5459606364016513140
def tw13390834352421686043:Params->Obj:=λP=>oF vF "_law_stands" "_law_stands" (top 36) 3 mN (vR 244)
def te13390834352421686043:=@rfl _ tw13390834352421686043
def tw17978181491659532205:Params->Obj:=λP=>oF vF "_law_small" "_law_small" (top 40) 3 mN (vR 268)
def te17978181491659532205:=@rfl _ tw17978181491659532205
def tw1417584329000860496:Params->Obj:=λP=>oF vF "_law_handed_on" "_law_handed_on" (top 38) 3 mN (vR 254)
def te1417584329000860496:=@rfl _ tw1417584329000860496
def tw9615243269909636624:Params->Obj:=λP=>oF vN "_law_rule_of" "_law_rule_of" (top 29) 0 vN vN
def te9615243269909636624:=@rfl _ tw9615243269909636624
def tw1154650094531827047:Params->Obj:=λP=>oF vN "mark_goes" "Fit.mark_goes" (L2.inClass (top 12) 2) 0 vN vN
def te1154650094531827047:=@rfl _ tw1154650094531827047
def tw13490782063355564062:Params->Obj:=λP=>oF vF "__init__" "Fit.__init__" (L2.inClass (top 12) 0) 3 (18:) (vR 81)
def te13490782063355564062:=@rfl _ tw13490782063355564062
def tw8984177559985912762:Params->Obj:=λP=>oF vN "pairs_of" "pairs_of" (top 13) 0 vN vN
def te8984177559985912762:=@rfl _ tw8984177559985912762
def tw15637771345850805473:Params->Obj:=λP=>oF vN "_law_name" "_law_name" (top 18) 0 vN vN
def te15637771345850805473:=@rfl _ tw15637771345850805473
def tw2931554761222714357:Params->Obj:=λP=>oF vN "_law_calls" "_law_calls" (top 23) 0 vN vN
def te2931554761222714357:=@rfl _ tw2931554761222714357
def tw4690574619985301322:Params->Obj:=λP=>oF vN "__init__" "Fit.__init__" (L2.inClass (top 12) 0) 0 vN vN
def te4690574619985301322:=@rfl _ tw4690574619985301322
def tw3340016841055598209:Params->Obj:=λP=>oF vF "law" "law" (top 46) 3 mN (vR 306)
def te3340016841055598209:=@rfl _ tw3340016841055598209
def tw14231562215584622955:Params->Obj:=λP=>oF vF "_law_whole" "_law_whole" (top 28) 3 mN (vR 196)
def te14231562215584622955:=@rfl _ tw14231562215584622955
def tw11763616188324435038:Params->Obj:=λP=>oF vF "_law_need" "_law_need" (top 35) 3 mN (vR 237)
def te11763616188324435038:=@rfl _ tw11763616188324435038
def tw12471798167863200541:Params->Obj:=λP=>oF vN "_law_handed_on" "_law_handed_on" (top 38) 0 vN vN
def te12471798167863200541:=@rfl _ tw12471798167863200541
def tw11744183816790091270:Params->Obj:=λP=>oF vN "_law_is_want" "_law_is_want" (top 42) 0 vN vN
def te11744183816790091270:=@rfl _ tw11744183816790091270
def tw12782843054385649127:Params->Obj:=λP=>oF vN "_law_plain_tree" "_law_plain_tree" (top 41) 0 vN vN
def te12782843054385649127:=@rfl _ tw12782843054385649127
def tw13963964948002316579:Params->Obj:=λP=>oF vF "_law_want" "_law_want" (top 44) 3 mN (vR 292)
def te13963964948002316579:=@rfl _ tw13963964948002316579
def tw15844561654765807375:Params->Obj:=λP=>oF vN "_law_draw" "_law_draw" (top 16) 0 vN vN
def te15844561654765807375:=@rfl _ tw15844561654765807375
def tw10894158251174132876:Params->Obj:=λP=>oF vN "_law_wants" "_law_wants" (top 37) 0 vN vN
def te10894158251174132876:=@rfl _ tw10894158251174132876
def tw15844399802836795921:Params->Obj:=λP=>oF vN "goes_onto" "Fit.goes_onto" (L2.inClass (top 12) 1) 0 vN vN
def te15844399802836795921:=@rfl _ tw15844399802836795921
def tw11027951606497844554:Params->Obj:=λP=>oF vN "is_call" "is_call" (top 1) 0 vN vN
def te11027951606497844554:=@rfl _ tw11027951606497844554
def tw17573737366905012658:Params->Obj:=λP=>oF vF "row_of" "row_of" (top 5) 3 (vS "turnery.woods" 204) (vR 41)
def te17573737366905012658:=@rfl _ tw17573737366905012658
def tw5644665128570282626:Params->Obj:=λP=>oF vF "mark_goes" "Fit.mark_goes" (L2.inClass (top 12) 2) 3 (18:) (vR 93)
def te5644665128570282626:=@rfl _ tw5644665128570282626
def tw16225799988073233711:Params->Obj:=λP=>oF vN "handed_on" "handed_on" (top 10) 0 vN vN
def te16225799988073233711:=@rfl _ tw16225799988073233711
def tw17797892129779885501:Params->Obj:=λP=>oF vN "_law_need" "_law_need" (top 35) 0 vN vN
def te17797892129779885501:=@rfl _ tw17797892129779885501
def tw11861635798162191445:Params->Obj:=λP=>oF vF "_law_rule" "_law_rule" (top 24) 3 mN (vR 172)
def te11861635798162191445:=@rfl _ tw11861635798162191445
def tw5752669429334689368:Params->Obj:=λP=>oF vN "_law_bare" "_law_bare" (top 26) 0 vN vN
def te5752669429334689368:=@rfl _ tw5752669429334689368
def tw3878416314108432559:Params->Obj:=λP=>oF vF "is_call" "is_call" (top 1) 3 (vS "turnery.terms" 187) (vR 20)
def te3878416314108432559:=@rfl _ tw3878416314108432559
def tw9275561739535819290:Params->Obj:=λP=>oF vN "_law_numbers" "_law_numbers" (top 15) 0 vN vN
def te9275561739535819290:=@rfl _ tw9275561739535819290
def tw9247257701516388608:Params->Obj:=λP=>oF vN "_law_tree" "_law_tree" (top 32) 0 vN vN
def te9247257701516388608:=@rfl _ tw9247257701516388608
def tw15849985732994312453:Params->Obj:=λP=>oF vN "_law_copy" "_law_copy" (top 27) 0 vN vN
def te15849985732994312453:=@rfl _ tw15849985732994312453
def tw4551604197555178782:Params->Obj:=λP=>oF vF "_law_draw" "_law_draw" (top 16) 3 mN (vR 122)
def te4551604197555178782:=@rfl _ tw4551604197555178782
def tw7190680117944435894:Params->Obj:=λP=>oF vF "_law_is_want" "_law_is_want" (top 42) 3 mN (vR 280)
def te7190680117944435894:=@rfl _ tw7190680117944435894
def tw11741447849740999490:Params->Obj:=λP=>oF vN "_law_told" "_law_told" (top 43) 0 vN vN
def te11741447849740999490:=@rfl _ tw11741447849740999490
def tw4701126847899930786:Params->Obj:=λP=>oF vF "handed_on" "handed_on" (top 10) 3 (18:) (vR 62)
def te4701126847899930786:=@rfl _ tw4701126847899930786
def tw5783797105226129506:Params->Obj:=λP=>oF vF "_law_name" "_law_name" (top 18) 3 mN (vR 136)
def te5783797105226129506:=@rfl _ tw5783797105226129506
def tw8544992535659725275:Params->Obj:=λP=>oF vN "_law_want" "_law_want" (top 44) 0 vN vN
def te8544992535659725275:=@rfl _ tw8544992535659725275
def tw8673207204705486023:Params->Obj:=λP=>oF vF "rows_of" "rows_of" (top 4) 3 (vS "turnery.woods" 204) (vR 34)
def te8673207204705486023:=@rfl _ tw8673207204705486023
def tw3948968236759156033:Params->Obj:=λP=>oF vF "_law_rows_hand_on" "_law_rows_hand_on" (top 45) 3 mN (vR 299)
def te3948968236759156033:=@rfl _ tw3948968236759156033
def tw4885656841687098820:Params->Obj:=λP=>oF vN "rows_of" "rows_of" (top 4) 0 vN vN
def te4885656841687098820:=@rfl _ tw4885656841687098820
def tw14078406369744618608:Params->Obj:=λP=>oF vF "_law_wood" "_law_wood" (top 19) 3 mN (vR 141)
def te14078406369744618608:=@rfl _ tw14078406369744618608
def tw13131461194268606224:Params->Obj:=λP=>oF vF "_law_mark" "_law_mark" (top 17) 3 mN (vR 129)
def te13131461194268606224:=@rfl _ tw13131461194268606224
def tw6179767062246586613:Params->Obj:=λP=>oF vF "_law_told" "_law_told" (top 43) 3 mN (vR 287)
def te6179767062246586613:=@rfl _ tw6179767062246586613
def tw4818728128388416402:Params->Obj:=λP=>oF vN "_law_rule" "_law_rule" (top 24) 0 vN vN
def te4818728128388416402:=@rfl _ tw4818728128388416402
def tw1086829045377495991:Params->Obj:=λP=>oF vN "_law_turning" "_law_turning" (top 25) 0 vN vN
def te1086829045377495991:=@rfl _ tw1086829045377495991
def tw16869610789453219426:Params->Obj:=λP=>oF vF "_law_copy" "_law_copy" (top 27) 3 mN (vR 189)
def te16869610789453219426:=@rfl _ tw16869610789453219426
def tw5262753628915564825:Params->Obj:=λP=>oF vF "_law_wants" "_law_wants" (top 37) 3 mN (vR 249)
def te5262753628915564825:=@rfl _ tw5262753628915564825
def tw16492394229955381762:Params->Obj:=λP=>oF vF "fit_of" "fit_of" (top 11) 3 (18:) (vR 69)
def te16492394229955381762:=@rfl _ tw16492394229955381762
def tw15313998385048514247:Params->Obj:=λP=>oF vN "_law_small" "_law_small" (top 40) 0 vN vN
def te15313998385048514247:=@rfl _ tw15313998385048514247
def tw7254426031217192170:Params->Obj:=λP=>oF vN "_law_made_by" "_law_made_by" (top 31) 0 vN vN
def te7254426031217192170:=@rfl _ tw7254426031217192170
def tw6440155570608821274:Params->Obj:=λP=>oF vF "pairs_of" "pairs_of" (top 13) 3 (18:) (vR 110)
def te6440155570608821274:=@rfl _ tw6440155570608821274
def tw17999557319118384156:Params->Obj:=λP=>oF vF "handed" "Fit.handed" (L2.inClass (top 12) 3) 3 (18:) (vR 98)
def te17999557319118384156:=@rfl _ tw17999557319118384156
def tw11563285230898135586:Params->Obj:=λP=>oF vN "_law_spoiled" "_law_spoiled" (top 39) 0 vN vN
def te11563285230898135586:=@rfl _ tw11563285230898135586
def tw1848727458025510586:Params->Obj:=λP=>oF vF "goes_onto" "Fit.goes_onto" (L2.inClass (top 12) 1) 3 (18:) (vR 86)
def te1848727458025510586:=@rfl _ tw1848727458025510586
def tw12476819491330051088:Params->Obj:=λP=>oF vN "fit_of" "fit_of" (top 11) 0 vN vN
def te12476819491330051088:=@rfl _ tw12476819491330051088
def tw14477600422310827992:Params->Obj:=λP=>oF vF "_law_outcome" "_law_outcome" (top 33) 3 mN (vR 225)
def te14477600422310827992:=@rfl _ tw14477600422310827992
def tw10094917018771293688:Params->Obj:=λP=>oF vN "_law_made" "_law_made" (top 30) 0 vN vN
def te10094917018771293688:=@rfl _ tw10094917018771293688
def tw1916483066913741797:Params->Obj:=λP=>oF vN "_law_rows_hand_on" "_law_rows_hand_on" (top 45) 0 vN vN
def te1916483066913741797:=@rfl _ tw1916483066913741797
def tw8551583993747946112:Params->Obj:=λP=>oF vN "mark_put" "mark_put" (top 2) 0 vN vN
def te8551583993747946112:=@rfl _ tw8551583993747946112
def tw69155709201049234:Params->Obj:=λP=>oF vF "_law_term" "_law_term" (top 21) 3 mN (vR 153)
def te69155709201049234:=@rfl _ tw69155709201049234
def tw5030051089561606851:Params->Obj:=λP=>oF vN "_law_mark" "_law_mark" (top 17) 0 vN vN
def te5030051089561606851:=@rfl _ tw5030051089561606851
def tw12920465975543561835:Params->Obj:=λP=>oF vN "row_of" "row_of" (top 5) 0 vN vN
def te12920465975543561835:=@rfl _ tw12920465975543561835
def tw10129468952159939404:Params->Obj:=λP=>oF vN "rule_of" "rule_of" (top 7) 0 vN vN
def te10129468952159939404:=@rfl _ tw10129468952159939404
def tw11191812414361619425:Params->Obj:=λP=>oF vF "_law_made_by" "_law_made_by" (top 31) 3 mN (vR 213)
def te11191812414361619425:=@rfl _ tw11191812414361619425
def tw17296974735840102782:Params->Obj:=λP=>oF vF "_law_names_in" "_law_names_in" (top 34) 3 mN (vR 230)
def te17296974735840102782:=@rfl _ tw17296974735840102782
def tw10634675474804474843:Params->Obj:=λP=>oF vF "_law_rows" "_law_rows" (top 20) 3 mN (vR 146)
def te10634675474804474843:=@rfl _ tw10634675474804474843
def tw10025817743103720436:Params->Obj:=λP=>oF vF "_law_calls" "_law_calls" (top 23) 3 mN (vR 165)
def te10025817743103720436:=@rfl _ tw10025817743103720436
def tw12243145925371849093:Params->Obj:=λP=>oF vF "_law_rule_of" "_law_rule_of" (top 29) 3 mN (vR 201)
def te12243145925371849093:=@rfl _ tw12243145925371849093
def tw1028268394469703138:Params->Obj:=λP=>oF vN "handed" "Fit.handed" (L2.inClass (top 12) 3) 0 vN vN
def te1028268394469703138:=@rfl _ tw1028268394469703138
def tw4755825702231266318:Params->Obj:=λP=>oF vF "_law_made" "_law_made" (top 30) 3 mN (vR 208)
def te4755825702231266318:=@rfl _ tw4755825702231266318
def tw15074200262518954330:Params->Obj:=λP=>oF vN "_law_changed" "_law_changed" (top 22) 0 vN vN
def te15074200262518954330:=@rfl _ tw15074200262518954330
def tw3618725268700784295:Params->Obj:=λP=>oF vF "_law_tree" "_law_tree" (top 32) 3 mN (vR 218)
def te3618725268700784295:=@rfl _ tw3618725268700784295
def tw17217098784926734597:Params->Obj:=λP=>oF vF "_law_turning" "_law_turning" (top 25) 3 mN (vR 179)
def te17217098784926734597:=@rfl _ tw17217098784926734597
def tw5500813833076308502:Params->Obj:=λP=>oF vN "law" "law" (top 46) 0 vN vN
def te5500813833076308502:=@rfl _ tw5500813833076308502
def tw17667877674707343252:Params->Obj:=λP=>oF vF "_law_spoiled" "_law_spoiled" (top 39) 3 mN (vR 261)
def te17667877674707343252:=@rfl _ tw17667877674707343252
def tw16954497164800941709:Params->Obj:=λP=>oF vN "_law_whole" "_law_whole" (top 28) 0 vN vN
def te16954497164800941709:=@rfl _ tw16954497164800941709
def tw5281277312262702465:Params->Obj:=λP=>oF vF "mark_put" "mark_put" (top 2) 3 (vS "turnery.terms" 187) (vR 27)
def te5281277312262702465:=@rfl _ tw5281277312262702465
def tw9987541723835624348:Params->Obj:=λP=>oF vN "_law_term" "_law_term" (top 21) 0 vN vN
def te9987541723835624348:=@rfl _ tw9987541723835624348
def tw2338813621958786322:Params->Obj:=λP=>oF vN "_law_names_in" "_law_names_in" (top 34) 0 vN vN
def te2338813621958786322:=@rfl _ tw2338813621958786322
def tw6924544689302536555:Params->Obj:=λP=>oF vF "rule_of" "rule_of" (top 7) 3 (vS "turnery.turnings" 223) (vR 48)
def te6924544689302536555:=@rfl _ tw6924544689302536555
def tw16752598216041815528:Params->Obj:=λP=>oF vF "_law_bare" "_law_bare" (top 26) 3 mN (vR 184)
def te16752598216041815528:=@rfl _ tw16752598216041815528
end PySem.W.Fast
def PySem.W.Fast.tw4267321124560388784:PySem.Program:=PySem.Challenge.pw_turnery_k70_wants_handed_on
theorem PySem.W.Fast.te4267321124560388784:(PySem.Challenge.pw_turnery_k70_wants_handed_on:PySem.Program)=PySem.W.Fast.tw4267321124560388784:=rfl
def PySem.W.Fast.tw4136368483528668535:PySem.Program:={ PySem.Challenge.pw_turnery_k70_wants_handed_on with main:={ PySem.Challenge.pw_turnery_k70_wants_handed_on.main with body:=[K70.top 1,K70.top 2,K70.top 4,K70.top 5,K70.top 7,K70.top 9,K70.top 10,K70.top 11,K70.top 12,K70.top 13,K70.top 15,K70.top 16,K70.top 17,K70.top 18,K70.top 19,K70.top 20,K70.top 21,K70.top 22,K70.top 23,K70.top 24,K70.top 25,K70.top 26,K70.top 27,K70.top 28,K70.top 29,K70.top 30,K70.top 31,K70.top 32,K70.top 33,K70.top 34,K70.top 35,K70.top 36,K70.top 37,K70.top 38,K70.top 39,K70.top 40,K70.top 41,K70.top 42,K70.top 43,K70.top 44,K70.top 45,K70.top 46] } }
theorem PySem.W.Fast.te4136368483528668535:({ PySem.Challenge.pw_turnery_k70_wants_handed_on with main:={ PySem.Challenge.pw_turnery_k70_wants_handed_on.main with body:=[K70.top 1,K70.top 2,K70.top 4,K70.top 5,K70.top 7,K70.top 9,K70.top 10,K70.top 11,K70.top 12,K70.top 13,K70.top 15,K70.top 16,K70.top 17,K70.top 18,K70.top 19,K70.top 20,K70.top 21,K70.top 22,K70.top 23,K70.top 24,K70.top 25,K70.top 26,K70.top 27,K70.top 28,K70.top 29,K70.top 30,K70.top 31,K70.top 32,K70.top 33,K70.top 34,K70.top 35,K70.top 36,K70.top 37,K70.top 38,K70.top 39,K70.top 40,K70.top 41,K70.top 42,K70.top 43,K70.top 44,K70.top 45,K70.top 46] } }:PySem.Program)=PySem.W.Fast.tw4136368483528668535:=rfl
def PySem.W.Fast.tw9684101191574197019:List PySem.Stmt:=(PySem.Challenge.pw_turnery_k70_wants_handed_on.main.body.drop 0).take 12
theorem PySem.W.Fast.te9684101191574197019:((PySem.Challenge.pw_turnery_k70_wants_handed_on.main.body.drop 0).take 12:List PySem.Stmt)=PySem.W.Fast.tw9684101191574197019:=rfl
def PySem.W.Fast.tw1717654675795214951:List PySem.Stmt:=(PySem.Challenge.pw_turnery_k70_wants_handed_on.main.body.drop 12).take 5
theorem PySem.W.Fast.te1717654675795214951:((PySem.Challenge.pw_turnery_k70_wants_handed_on.main.body.drop 12).take 5:List PySem.Stmt)=PySem.W.Fast.tw1717654675795214951:=rfl
def PySem.W.Fast.tw16035374762394168062:List PySem.Stmt:=(PySem.Challenge.pw_turnery_k70_wants_handed_on.main.body.drop 17).take 13
theorem PySem.W.Fast.te16035374762394168062:((PySem.Challenge.pw_turnery_k70_wants_handed_on.main.body.drop 17).take 13:List PySem.Stmt)=PySem.W.Fast.tw16035374762394168062:=rfl
def PySem.W.Fast.tw482474503333780694:List PySem.Stmt:=(PySem.Challenge.pw_turnery_k70_wants_handed_on.main.body.drop 30).take 13
theorem PySem.W.Fast.te482474503333780694:((PySem.Challenge.pw_turnery_k70_wants_handed_on.main.body.drop 30).take 13:List PySem.Stmt)=PySem.W.Fast.tw482474503333780694:=rfl
def PySem.W.Fast.tw3904307938802228819:List PySem.Stmt:=(PySem.Challenge.pw_turnery_k70_wants_handed_on.main.body.drop 43).take 4
theorem PySem.W.Fast.te3904307938802228819:((PySem.Challenge.pw_turnery_k70_wants_handed_on.main.body.drop 43).take 4:List PySem.Stmt)=PySem.W.Fast.tw3904307938802228819:=rfl
section
open PySem
open K70
def K70.x11(P:Params):Obj:={ cls:=Value.type "tuple",data:=Data.seq #[] }
def K70.x12(P:Params):Obj:={ cls:=vN,data:=Data.fields #[vI 2 0,vI 0 0,vR 20,vI 4 0,vI 0 0,vR 27,vI 7 0,vI 0 0,vR 34,vI 9 0,vI 0 0,vR 41,vI 12 0,vI 0 0,vR 48,vI 20 0,vI 0 0,vR 55,vI 23 0,vI 0 0,vR 62,vI 26 0,vI 0 0,vR 69,vI 35 0,vI 0 0,vR 76,vI 56 0,vI 0 0,vR 110,vI 59 0,vI 0 0,vR 115,vI 66 0,vI 0 0,vR 122,vI 70 0,vI 0 0,vR 129,vI 75 0,vI 0 0,vR 136,vI 89 0,vI 0 0,vR 141,vI 100 0,vI 0 0,vR 146,vI 102 0,vI 0 0,vR 153,vI 113 0,vI 0 0,vR 158,vI 122 0,vI 0 0,vR 165,vI 129 0,vI 0 0,vR 172,vI 136 0,vI 0 0,vR 179,vI 149 0,vI 0 0,vR 184,vI 153 0,vI 0 0,vR 189,vI 156 0,vI 0 0,vR 196,vI 158 0,vI 0 0,vR 201,vI 161 0,vI 0 0,vR 208,vI 163 0,vI 0 0,vR 213,vI 168 0,vI 0 0,vR 218,vI 175 0,vI 0 0,vR 225,vI 177 0,vI 0 0,vR 230,vI 179 0,vI 0 0,vR 237,vI 189 0,vI 0 0,vR 244,vI 201 0,vI 0 0,vR 249,vI 217 0,vI 0 0,vR 254,vI 221 0,vI 0 0,vR 261,vI 236 0,vI 0 0,vR 268,vI 242 0,vI 0 0,vR 273,vI 248 0,vI 0 0,vR 280,vI 259 0,vI 0 0,vR 287,vI 266 0,vI 0 0,vR 292,vI 281 0,vI 0 0,vR 299,vI 298 0,vI 0 0,vR 306] }
def K70.x13(P:Params):Obj:={ cls:=Value.type "code",data:=Data.fields #[vS "<module>" 182,vS "<module>" 183,vS "/claim/cut.py" 184,vI 1 0,vI 0 0,vI 0 0,vI 0 0,vI 0 0,vR 11,Value.bool false,vI 181 0,vR 12,vN,vN,vN,vN,vI 185 0,vI 1 0,vS "/claim/cut.py" 186] }
def K70.x14(P:Params):Obj:={ cls:=Value.type "frame",slots:=#[some (vR 13),some (vR 3),some (vR 3),none,some (vS "__main__" 164),none,some (vR 0)] }
def K70.x19(P:Params):Obj:=W.Fast.tw11027951606497844554 P
def K70.x26(P:Params):Obj:=W.Fast.tw8551583993747946112 P
def K70.x33(P:Params):Obj:=W.Fast.tw4885656841687098820 P
def K70.x40(P:Params):Obj:=W.Fast.tw12920465975543561835 P
def K70.x47(P:Params):Obj:=W.Fast.tw10129468952159939404 P
def K70.x54(P:Params):Obj:=W.Fast.tw12053996717697015646 P
def K70.x61(P:Params):Obj:=W.Fast.tw16225799988073233711 P
def K70.x68(P:Params):Obj:=W.Fast.tw12476819491330051088 P
def K70.x71(P:Params):Obj:={ cls:=Value.type "tuple",data:=Data.seq #[] }
def K70.x72(P:Params):Obj:={ cls:=Value.type "builtin_function_or_method",data:=Data.fields #[Value.builtin "type.__prepare__",Value.type "type"] }
def K70.x73(P:Params):Obj:={ cls:=Value.type "dict",data:=Data.dict #[hE P "__module__" 279 (18:),hE P "__qualname__" 281 (vS "Fit" 280),hE P "__firstlineno__" 283 (vI 35 282),hE P "__init__" 289 (vR 82),hE P "goes_onto" 295 (vR 87),hE P "mark_goes" 304 (vR 94),hE P "handed" 310 (vR 99),hE P "__static_attributes__" 314 (vR 100)] 8 }
def K70.x74(P:Params):Obj:={ cls:=Value.type "tuple",data:=Data.seq #[] }
def K70.x75(P:Params):Obj:={ cls:=vN,data:=Data.fields #[vI 37 0,vI 4 0,vR 81,vI 42 0,vI 4 0,vR 86,vI 49 0,vI 4 0,vR 93,vI 54 0,vI 4 0,vR 98] }
def K70.x76(P:Params):Obj:={ cls:=Value.type "code",data:=Data.fields #[vS "Fit" 274,vS "Fit" 275,vS "/claim/cut.py" 276,vI 35 0,vI 0 0,vI 0 0,vI 0 0,vI 0 0,vR 74,Value.bool false,vI 181 0,vR 75,vN,vN,vN,vN,vI 277 0,vI 35 0,vS "/claim/cut.py" 278] }
def K70.x77(P:Params):Obj:={ cls:=Value.type "frame",slots:=#[some (vR 76),some (vR 3),some (vR 73),none,some (18:),none,some (vR 0)] }
def K70.x80(P:Params):Obj:=W.Fast.tw4690574619985301322 P
def K70.x85(P:Params):Obj:=W.Fast.tw15844399802836795921 P
def K70.x92(P:Params):Obj:=W.Fast.tw1154650094531827047 P
def K70.x97(P:Params):Obj:=W.Fast.tw1028268394469703138 P
def K70.x105(P:Params):Obj:={ cls:=Value.type "super",data:=Data.fields #[vR 102,vR 102,vR 102] }
def K70.x106(P:Params):Obj:={ cls:=Value.type "builtin_function_or_method",data:=Data.fields #[Value.builtin "object.__init_subclass__",vR 102] }
def K70.x109(P:Params):Obj:=W.Fast.tw8984177559985912762 P
def K70.x114(P:Params):Obj:=W.Fast.tw9275561739535819290 P
def K70.x121(P:Params):Obj:=W.Fast.tw15844561654765807375 P
def K70.x128(P:Params):Obj:=W.Fast.tw5030051089561606851 P
def K70.x135(P:Params):Obj:=W.Fast.tw15637771345850805473 P
def K70.x140(P:Params):Obj:=W.Fast.tw4612038677229231952 P
def K70.x145(P:Params):Obj:=W.Fast.tw15702388203795965070 P
def K70.x152(P:Params):Obj:=W.Fast.tw9987541723835624348 P
def K70.x157(P:Params):Obj:=W.Fast.tw15074200262518954330 P
def K70.x164(P:Params):Obj:=W.Fast.tw2931554761222714357 P
def K70.x171(P:Params):Obj:=W.Fast.tw4818728128388416402 P
def K70.x178(P:Params):Obj:=W.Fast.tw1086829045377495991 P
def K70.x183(P:Params):Obj:=W.Fast.tw5752669429334689368 P
def K70.x188(P:Params):Obj:=W.Fast.tw15849985732994312453 P
def K70.x195(P:Params):Obj:=W.Fast.tw16954497164800941709 P
def K70.x200(P:Params):Obj:=W.Fast.tw9615243269909636624 P
def K70.x207(P:Params):Obj:=W.Fast.tw10094917018771293688 P
def K70.x212(P:Params):Obj:=W.Fast.tw7254426031217192170 P
def K70.x217(P:Params):Obj:=W.Fast.tw9247257701516388608 P
def K70.x224(P:Params):Obj:=W.Fast.tw5459606364016513140 P
def K70.x229(P:Params):Obj:=W.Fast.tw2338813621958786322 P
def K70.x236(P:Params):Obj:=W.Fast.tw17797892129779885501 P
def K70.x243(P:Params):Obj:=W.Fast.tw3547754359278717537 P
def K70.x248(P:Params):Obj:=W.Fast.tw10894158251174132876 P
def K70.x253(P:Params):Obj:=W.Fast.tw12471798167863200541 P
def K70.x260(P:Params):Obj:=W.Fast.tw11563285230898135586 P
def K70.x267(P:Params):Obj:=W.Fast.tw15313998385048514247 P
def K70.x272(P:Params):Obj:=W.Fast.tw12782843054385649127 P
def K70.x279(P:Params):Obj:=W.Fast.tw11744183816790091270 P
def K70.x286(P:Params):Obj:=W.Fast.tw11741447849740999490 P
def K70.x291(P:Params):Obj:=W.Fast.tw8544992535659725275 P
def K70.x298(P:Params):Obj:=W.Fast.tw1916483066913741797 P
def K70.x305(P:Params):Obj:=W.Fast.tw5500813833076308502 P
def _root_.PySem.W.Fast.tw9878818868020220693:Params->Heap:=λP=>{ objs:=⟨[W.boot_o_0 P,W.boot_o_1 P,Obj.mk vN none (Data.dict #[]) #[],x3 P,W.boot_o_4 P,W.boot_o_5 P,W.boot_o_6 P,W.boot_o_7 P,W.boot_o_8 P,W.boot_o_9 P,W.boot_o_10 P,x11 P,x12 P,x13 P,x14 P,oT #[],oE,oT #[vS "term" 192],oT #[],x19 P,x20 P,x21 P,oT #[],oE,oT #[vS "term" 199,vS "mark" 200],oT #[],x26 P,x27 P,x28 P,oT #[],oE,oT #[vS "wood" 209,vS "kind" 210],oT #[],x33 P,x34 P,x35 P,oT #[],oE,x38 P,oT #[],x40 P,x41 P,x42 P,oT #[],oE,x45 P,oT #[],x47 P,x48 P,x49 P,oT #[],oE,x52 P,oT #[],x54 P,x55 P,x56 P,oT #[],oE,x59 P,oT #[],x61 P,x62 P,x63 P,oT #[],oE,x66 P,oT #[],x68 P,x69 P,x70 P,x71 P,x72 P,x73 P,x74 P,x75 P,x76 P,x77 P,oT #[],oE,x80 P,x81 P,x82 P,oT #[],oE,x85 P,x86 P,x87 P,oT #[],oE,x90 P,oT #[],x92 P,x93 P,x94 P,oT #[],oE,x97 P,x98 P,x99 P,x100 P,x101 P,x102 P,x103 P,x104 P,x105 P,x106 P,oT #[],oE,x109 P,x110 P,x111 P,oT #[],oE,x114 P,x115 P,x116 P,oT #[],oE,x119 P,oT #[],x121 P,x122 P,x123 P,oT #[],oE,x126 P,oT #[],x128 P,x129 P,x130 P,oT #[],oE,x133 P,oT #[],x135 P,x136 P,x137 P,oT #[],oE,x140 P,x141 P,x142 P,oT #[],oE,x145 P,x146 P,x147 P,oT #[],oE,x150 P,oT #[],x152 P,x153 P,x154 P,oT #[],oE,x157 P,x158 P,x159 P,oT #[],oE,x162 P,oT #[],x164 P,x165 P,x166 P,oT #[],oE,x169 P,oT #[],x171 P,x172 P,x173 P,oT #[],oE,x176 P,oT #[],x178 P,x179 P,x180 P,oT #[],oE,x183 P,x184 P,x185 P,oT #[],oE,x188 P,x189 P,x190 P,oT #[],oE,oT #[vS "_law_found" 455],oT #[],x195 P,x196 P,x197 P,oT #[],oE,x200 P,x201 P,x202 P,oT #[],oE,x205 P,oT #[],x207 P,x208 P,x209 P,oT #[],oE,x212 P,x213 P,x214 P,oT #[],oE,x217 P,x218 P,x219 P,oT #[],oE,x222 P,oT #[],x224 P,x225 P,x226 P,oT #[],oE,x229 P,x230 P,x231 P,oT #[],oE,x234 P,oT #[],x236 P,x237 P,x238 P,oT #[],oE,x241 P,oT #[],x243 P,x244 P,x245 P,oT #[],oE,x248 P,x249 P,x250 P,oT #[],oE,x253 P,x254 P,x255 P,oT #[],oE,x258 P,oT #[],x260 P,x261 P,x262 P,oT #[],oE,x265 P,oT #[],x267 P,x268 P,x269 P,oT #[],oE,x272 P,x273 P,x274 P,oT #[],oE,x277 P,oT #[],x279 P,x280 P,x281 P,oT #[],oE,x284 P,oT #[],x286 P,x287 P,x288 P,oT #[],oE,x291 P,x292 P,x293 P,oT #[],oE,x296 P,oT #[],x298 P,x299 P,x300 P,oT #[],oE,x303 P,oT #[],x305 P,x306 P,x307 P]⟩ }
def _root_.PySem.W.Fast.te9878818868020220693:=@rfl _ PySem.W.Fast.tw9878818868020220693
def K70.N:W.BT:=.nil
def K70.B(o:Obj)(l r:W.BT):W.BT:=.node o l r
def _root_.PySem.W.Fast.tw8493939647603182207:Params->W.BT:=λP=>B (W.boot_o_0 P) (B (W.boot_o_1 P) (B (x3 P) (B (W.boot_o_7 P) (B (51:) (B (oT #[vS "wood" 209,vS "kind" 210]) (B (x63 P) (B (51:) (B (x255 P) N N) N) (6:)) (B (51:) (B (x159 P) (B (x287 P) N N) N) (6:))) (B (x47 P) (B (oE) (B (51:) (30:) N) (B (x207 P) N N)) (B (x111 P) (B (oE) (B (x303 P) N N) N) (6:)))) (B (oE) (B (51:) (B (x71 P) (B (x135 P) (6:) N) (30:)) (B (x103 P) (B (51:) (30:) N) (B (x231 P) N N))) (B (x55 P) (B (x87 P) (B (51:) (B (x279 P) N N) N) (6:)) (B (x119 P) (B (x183 P) N N) (30:))))) (B (x11 P) (B (x19 P) (B (x35 P) (B (51:) (B (51:) (6:) N) (B (x195 P) N N)) (B (x99 P) (B (51:) (B (x291 P) N N) N) (6:))) (B (oE) (B (51:) (B (x147 P) (6:) N) (30:)) (B (x115 P) (B (x179 P) (B (x307 P) N N) N) (B (x243 P) N N)))) (B (x27 P) (B (51:) (B (x75 P) (B (oE) (B (x267 P) N N) N) (6:)) (B (51:) (B (x171 P) (B (x299 P) N N) N) (6:))) (B (x59 P) (B (51:) (B (51:) (30:) N) (B (x219 P) N N)) (B (x123 P) (30:) (6:)))))) (B (W.boot_o_5 P) (B (W.boot_o_9 P) (B (oT #[vS "term" 192]) (B (x33 P) (B (oE) (B (x129 P) (30:) N) (B (oT #[vS "_law_found" 455]) N N)) (B (x97 P) (B (oE) (6:) N) (B (x225 P) N N))) (B (x49 P) (B (x81 P) (B (x145 P) (B (x273 P) N N) N) (B (x209 P) N N)) (B (oE) (B (51:) (B (x305 P) N N) N) (B (x241 P) N N)))) (B (51:) (B (x41 P) (B (x73 P) (B (x137 P) (B (x265 P) N N) N) (B (x201 P) N N)) (B (x105 P) (B (x169 P) (6:) N) (30:))) (B (51:) (B (oE) (B (x153 P) (B (x281 P) N N) N) (B (x217 P) N N)) (B (x121 P) (B (x185 P) N N) (B (x249 P) N N))))) (B (x13 P) (B (x21 P) (B (oE) (B (x69 P) (B (x133 P) (B (x261 P) N N) N) (B (x197 P) N N)) (B (x101 P) (B (x165 P) (B (x293 P) N N) N) (B (x229 P) N N))) (B (51:) (B (x85 P) (B (oE) (B (x277 P) N N) N) (B (x213 P) N N)) (B (51:) (6:) (B (x245 P) N N)))) (B (51:) (B (x45 P) (B (x77 P) (B (x141 P) (B (x269 P) N N) N) (B (x205 P) N N)) (B (x109 P) (B (x173 P) (6:) N) (B (x237 P) N N))) (B (x61 P) (B (x93 P) (B (x157 P) (6:) N) (30:)) (B (oE) (B (x189 P) N N) (B (x253 P) N N))))))) (B (Obj.mk vN none (Data.dict #[]) #[]) (B (W.boot_o_4 P) (B (W.boot_o_8 P) (B (oE) (B (51:) (B (51:) (B (x128 P) (6:) N) (30:)) (B (oE) (B (51:) (B (x288 P) N N) N) (B (x224 P) N N))) (B (x48 P) (B (x80 P) (B (oE) (B (x272 P) N N) N) (B (x208 P) N N)) (B (51:) (B (x176 P) (6:) N) (30:)))) (B (oT #[vS "term" 199,vS "mark" 200]) (B (x40 P) (B (x72 P) (B (x136 P) (30:) N) (B (x200 P) N N)) (B (x104 P) (B (oE) (B (x296 P) N N) N) (6:))) (B (x56 P) (B (51:) (B (x152 P) (B (x280 P) N N) N) (30:)) (B (51:) (B (x184 P) N N) (B (x248 P) N N))))) (B (x12 P) (B (x20 P) (B (51:) (B (x68 P) (B (oE) (B (x260 P) N N) N) (B (x196 P) N N)) (B (x100 P) (B (x164 P) (B (x292 P) N N) N) (30:))) (B (x52 P) (B (oE) (B (51:) (30:) N) (B (x212 P) N N)) (B (x116 P) (B (x180 P) N N) (B (x244 P) N N)))) (B (x28 P) (B (oE) (B (x76 P) (B (x140 P) (B (x268 P) N N) N) (30:)) (B (oE) (B (x172 P) (B (x300 P) N N) N) (B (x236 P) N N))) (B (51:) (B (x92 P) (B (oE) (B (x284 P) N N) N) (6:)) (B (51:) (B (x188 P) N N) (30:)))))) (B (W.boot_o_6 P) (B (W.boot_o_10 P) (B (51:) (B (x34 P) (B (x66 P) (B (x130 P) (B (x258 P) N N) N) (6:)) (B (x98 P) (B (x162 P) (30:) N) (B (x226 P) N N))) (B (51:) (B (x82 P) (B (x146 P) (B (x274 P) N N) N) (6:)) (B (x114 P) (B (x178 P) (B (x306 P) N N) N) (6:)))) (B (x26 P) (B (x42 P) (B (x74 P) (B (51:) (6:) N) (B (x202 P) N N)) (B (x106 P) (B (51:) (B (x298 P) N N) N) (B (x234 P) N N))) (B (oE) (B (x90 P) (B (x154 P) (6:) N) (B (x218 P) N N)) (B (x122 P) (6:) (B (x250 P) N N))))) (B (x14 P) (B (51:) (B (x38 P) (B (x70 P) (B (51:) (B (x262 P) N N) N) (6:)) (B (x102 P) (B (x166 P) (6:) N) (B (x230 P) N N))) (B (x54 P) (B (x86 P) (B (x150 P) (6:) N) (B (x214 P) N N)) (B (oE) (30:) (6:)))) (B (oE) (B (51:) (B (51:) (B (x142 P) (6:) N) (6:)) (B (x110 P) (B (51:) (30:) N) (B (x238 P) N N))) (B (x62 P) (B (x94 P) (B (x158 P) (B (x286 P) N N) N) (B (x222 P) N N)) (B (x126 P) (B (x190 P) N N) (B (x254 P) N N)))))))
def _root_.PySem.W.Fast.te8493939647603182207:=@rfl _ PySem.W.Fast.tw8493939647603182207
def K70.y3_323(P:Params):Obj:={ cls:=Value.type "dict",data:=Data.dict #[hE P "__name__" 165 mN,hE P "__doc__" 166 (vN),hE P "__package__" 167 (vN),hE P "__loader__" 168 (Value.builtin "__main__.__loader__#opaque"),hE P "__spec__" 169 (vN),hE P "__annotations__" 170 (vR 6),hE P "__builtins__" 171 (vR 4),hE P "__file__" 173 (vS "/claim/cut.py" 172),hE P "__cached__" 174 (vN),hE P "is_call" 195 (vR 21),hE P "mark_put" 203 (vR 28),hE P "rows_of" 213 (vR 35),hE P "row_of" 222 (vR 42),hE P "rule_of" 237 (vR 49),hE P "wanted" 248 (vR 56),hE P "handed_on" 258 (vR 63),hE P "fit_of" 271 (vR 70),hE P "Fit" 321 (vR 102),hE P "pairs_of" 327 (vR 111),hE P "_law_numbers" 335 (vR 116),hE P "_law_draw" 343 (vR 123),hE P "_law_mark" 351 (vR 130),hE P "_law_name" 366 (vR 137),hE P "_law_wood" 372 (vR 142),hE P "_law_rows" 378 (vR 147),hE P "_law_term" 393 (vR 154),hE P "_law_changed" 399 (vR 159),hE P "_law_calls" 410 (vR 166),hE P "_law_rule" 421 (vR 173),hE P "_law_turning" 439 (vR 180),hE P "_law_bare" 445 (vR 185),hE P "_law_copy" 451 (vR 190),hE P "_law_whole" 458 (vR 197),hE P "_law_rule_of" 464 (vR 202),hE P "_law_made" 473 (vR 209),hE P "_law_made_by" 479 (vR 214),hE P "_law_tree" 485 (vR 219),hE P "_law_outcome" 493 (vR 226),hE P "_law_names_in" 499 (vR 231),hE P "_law_need" 510 (vR 238),hE P "_law_stands" 523 (vR 245),hE P "_law_wants" 529 (vR 250),hE P "_law_handed_on" 535 (vR 255),hE P "_law_spoiled" 547 (vR 262),hE P "_law_small" 557 (vR 269),hE P "_law_plain_tree" 563 (vR 274),hE P "_law_is_want" 571 (vR 281)] 47 }
def K70.y12_323(P:Params):Obj:={ cls:=vN,data:=Data.fields #[vI 2 0,vI 0 0,vR 20,vI 4 0,vI 0 0,vR 27,vI 7 0,vI 0 0,vR 34,vI 9 0,vI 0 0,vR 41,vI 12 0,vI 0 0,vR 48,vI 20 0,vI 0 0,vR 55,vI 23 0,vI 0 0,vR 62,vI 26 0,vI 0 0,vR 69,vI 35 0,vI 0 0,vR 76,vI 56 0,vI 0 0,vR 110,vI 59 0,vI 0 0,vR 115,vI 66 0,vI 0 0,vR 122,vI 70 0,vI 0 0,vR 129,vI 75 0,vI 0 0,vR 136,vI 89 0,vI 0 0,vR 141,vI 100 0,vI 0 0,vR 146,vI 102 0,vI 0 0,vR 153,vI 113 0,vI 0 0,vR 158,vI 122 0,vI 0 0,vR 165,vI 129 0,vI 0 0,vR 172,vI 136 0,vI 0 0,vR 179,vI 149 0,vI 0 0,vR 184,vI 153 0,vI 0 0,vR 189,vI 156 0,vI 0 0,vR 196,vI 158 0,vI 0 0,vR 201,vI 161 0,vI 0 0,vR 208,vI 163 0,vI 0 0,vR 213,vI 168 0,vI 0 0,vR 218,vI 175 0,vI 0 0,vR 225,vI 177 0,vI 0 0,vR 230,vI 179 0,vI 0 0,vR 237,vI 189 0,vI 0 0,vR 244,vI 201 0,vI 0 0,vR 249,vI 217 0,vI 0 0,vR 254,vI 221 0,vI 0 0,vR 261,vI 236 0,vI 0 0,vR 268,vI 242 0,vI 0 0,vR 273,vI 248 0,vI 0 0,vR 280] }
def _root_.PySem.W.Fast.tw17720435005714149338:Params->W.BT:=λP=>B (W.boot_o_0 P) (B (W.boot_o_1 P) (B (y3_323 P) (B (W.boot_o_7 P) (B (51:) (B (oT #[vS "wood" 209,vS "kind" 210]) (B (x63 P) (B (51:) (B (x255 P) N N) N) (6:)) (B (51:) (B (x159 P) N N) (6:))) (B (x47 P) (B (oE) (B (51:) (30:) N) (B (x207 P) N N)) (B (x111 P) (30:) (6:)))) (B (oE) (B (51:) (B (x71 P) (B (x135 P) (6:) N) (30:)) (B (x103 P) (6:) (B (x231 P) N N))) (B (x55 P) (B (x87 P) (B (51:) (B (x279 P) N N) N) (6:)) (B (x119 P) (B (x183 P) N N) (30:))))) (B (x11 P) (B (x19 P) (B (x35 P) (B (51:) (B (51:) (6:) N) (B (x195 P) N N)) (B (x99 P) (6:) (6:))) (B (oE) (B (51:) (B (x147 P) (6:) N) (30:)) (B (x115 P) (B (x179 P) N N) (B (x243 P) N N)))) (B (x27 P) (B (51:) (B (x75 P) (B (oE) (B (x267 P) N N) N) (6:)) (B (51:) (B (x171 P) N N) (6:))) (B (x59 P) (B (51:) (6:) (B (x219 P) N N)) (B (x123 P) (30:) (6:)))))) (B (W.boot_o_5 P) (B (W.boot_o_9 P) (B (oT #[vS "term" 192]) (B (x33 P) (B (oE) (B (x129 P) (30:) N) (B (oT #[vS "_law_found" 455]) N N)) (B (x97 P) (30:) (B (x225 P) N N))) (B (x49 P) (B (x81 P) (B (x145 P) (B (x273 P) N N) N) (B (x209 P) N N)) (B (oE) (6:) (B (x241 P) N N)))) (B (51:) (B (x41 P) (B (x73 P) (B (x137 P) (B (x265 P) N N) N) (B (x201 P) N N)) (B (x105 P) (B (x169 P) N N) (30:))) (B (51:) (B (oE) (B (x153 P) (B (x281 P) N N) N) (B (x217 P) N N)) (B (x121 P) (B (x185 P) N N) (B (x249 P) N N))))) (B (x13 P) (B (x21 P) (B (oE) (B (x69 P) (B (x133 P) (B (x261 P) N N) N) (B (x197 P) N N)) (B (x101 P) (B (x165 P) N N) (B (x229 P) N N))) (B (51:) (B (x85 P) (B (oE) (B (x277 P) N N) N) (B (x213 P) N N)) (B (51:) (6:) (B (x245 P) N N)))) (B (51:) (B (x45 P) (B (x77 P) (B (x141 P) (B (x269 P) N N) N) (B (x205 P) N N)) (B (x109 P) (B (x173 P) N N) (B (x237 P) N N))) (B (x61 P) (B (x93 P) (B (x157 P) N N) (30:)) (B (oE) (B (x189 P) N N) (B (x253 P) N N))))))) (B (Obj.mk vN none (Data.dict #[]) #[]) (B (W.boot_o_4 P) (B (W.boot_o_8 P) (B (oE) (B (51:) (B (51:) (B (x128 P) (6:) N) (30:)) (B (oE) (6:) (B (x224 P) N N))) (B (x48 P) (B (x80 P) (B (oE) (B (x272 P) N N) N) (B (x208 P) N N)) (B (51:) (B (x176 P) N N) (30:)))) (B (oT #[vS "term" 199,vS "mark" 200]) (B (x40 P) (B (x72 P) (B (x136 P) (30:) N) (B (x200 P) N N)) (B (x104 P) (30:) (6:))) (B (x56 P) (B (51:) (B (x152 P) (B (x280 P) N N) N) (30:)) (B (51:) (B (x184 P) N N) (B (x248 P) N N))))) (B (y12_323 P) (B (x20 P) (B (51:) (B (x68 P) (B (oE) (B (x260 P) N N) N) (B (x196 P) N N)) (B (x100 P) (B (x164 P) N N) (30:))) (B (x52 P) (B (oE) (B (51:) (30:) N) (B (x212 P) N N)) (B (x116 P) (B (x180 P) N N) (B (x244 P) N N)))) (B (x28 P) (B (oE) (B (x76 P) (B (x140 P) (B (x268 P) N N) N) (30:)) (B (oE) (B (x172 P) N N) (B (x236 P) N N))) (B (51:) (B (x92 P) (30:) (6:)) (B (51:) (B (x188 P) N N) (30:)))))) (B (W.boot_o_6 P) (B (W.boot_o_10 P) (B (51:) (B (x34 P) (B (x66 P) (B (x130 P) (B (x258 P) N N) N) (6:)) (B (x98 P) (B (x162 P) N N) (B (x226 P) N N))) (B (51:) (B (x82 P) (B (x146 P) (B (x274 P) N N) N) (6:)) (B (x114 P) (B (x178 P) N N) (6:)))) (B (x26 P) (B (x42 P) (B (x74 P) (B (51:) (6:) N) (B (x202 P) N N)) (B (x106 P) (6:) (B (x234 P) N N))) (B (oE) (B (x90 P) (B (x154 P) N N) (B (x218 P) N N)) (B (x122 P) (6:) (B (x250 P) N N))))) (B (x14 P) (B (51:) (B (x38 P) (B (x70 P) (B (51:) (B (x262 P) N N) N) (6:)) (B (x102 P) (B (x166 P) N N) (B (x230 P) N N))) (B (x54 P) (B (x86 P) (B (x150 P) (6:) N) (B (x214 P) N N)) (B (oE) (30:) (6:)))) (B (oE) (B (51:) (B (51:) (B (x142 P) (6:) N) (6:)) (B (x110 P) (6:) (B (x238 P) N N))) (B (x62 P) (B (x94 P) (B (x158 P) N N) (B (x222 P) N N)) (B (x126 P) (B (x190 P) N N) (B (x254 P) N N)))))))
def _root_.PySem.W.Fast.te17720435005714149338:=@rfl _ PySem.W.Fast.tw17720435005714149338
end
open PySem PySem.W PyProof.Rows
set_option maxRecDepth 100000 in
set_option maxHeartbeats 0 in
theorem PySem.Challenge.cw_turnery_k70_wants_handed_on_holds : PySem.Challenge.rw_turnery_k70_wants_handed_on.Holds := by
 w_on;o_law;k_head;(case hw=>w_witness2)
 k_fill
 refine K70.walk (l:=PySem.Challenge.rw_turnery_k70_wants_handed_on) rfl rfl (λw h Y=>PySem.W.kIn_of Y) ?F
 case F=>
  intro w mg fa h KX G hmg;refine' K70.all_mk KX G hmg ?d1 ?d2 ?d3 ?d4 ?d5 ?d6 ?d7 ?d8 ?d9 ?d10 ?d11 ?d12 ?d13 ?d14 ?d15 ?d16 ?d17 ?d18 ?d19 ?d20 ?d21 ?d22 ?d23 ?d24 ?d25 ?d26 ?d27 ?d28 ?d29 ?d30 ?d31 ?d32 ?d33 ?d34 ?d35 ?d36 ?d37 ?d38 ?d39 ?d40 ?d41 ?z1 ?z2 ?z3 ?z4 ?z5 ?z6 ?z7 ?z8 ?z9 ?z10 ?z11 ?z12 ?z13 ?z14 ?z15 ?s1
  (case d1=>refine' L2.DefAt.mk' ?a ?l ?c ?k;(case a=>k_is);(case l=>k_is);(case c=>k_is);(case k=>k_is))
  (case d2=>refine' L2.DefAt.mk' ?a ?l ?c ?k;(case a=>k_is);(case l=>k_is);(case c=>k_is);(case k=>k_is))
  (case d3=>refine' L2.DefAt.mk' ?a ?l ?c ?k;(case a=>k_is);(case l=>k_is);(case c=>k_is);(case k=>k_is))
  (case d4=>refine' L2.DefAt.mk' ?a ?l ?c ?k;(case a=>k_is);(case l=>k_is);(case c=>k_is);(case k=>k_is))
  (case d5=>refine' L2.DefAt.mk' ?a ?l ?c ?k;(case a=>k_is);(case l=>k_is);(case c=>k_is);(case k=>k_is))
  (case d6=>refine' L2.DefAt.mk' ?a ?l ?c ?k;(case a=>k_is);(case l=>k_is);(case c=>k_is);(case k=>k_is))
  (case d7=>refine' L2.DefAt.mk' ?a ?l ?c ?k;(case a=>k_is);(case l=>k_is);(case c=>k_is);(case k=>k_is))
  (case d8=>refine' L2.DefAt.mk' ?a ?l ?c ?k;(case a=>k_is);(case l=>k_is);(case c=>k_is);(case k=>k_is))
  (case d9=>refine' L2.DefAt.mk' ?a ?l ?c ?k;(case a=>k_is);(case l=>k_is);(case c=>k_is);(case k=>k_is))
  (case d10=>refine' L2.DefAt.mk' ?a ?l ?c ?k;(case a=>k_is);(case l=>k_is);(case c=>k_is);(case k=>k_is))
  (case d11=>refine' L2.DefAt.mk' ?a ?l ?c ?k;(case a=>k_is);(case l=>k_is);(case c=>k_is);(case k=>k_is))
  (case d12=>refine' L2.DefAt.mk' ?a ?l ?c ?k;(case a=>k_is);(case l=>k_is);(case c=>k_is);(case k=>k_is))
  (case d13=>refine' L2.DefAt.mk' ?a ?l ?c ?k;(case a=>k_is);(case l=>k_is);(case c=>k_is);(case k=>k_is))
  (case d14=>refine' L2.DefAt.mk' ?a ?l ?c ?k;(case a=>k_is);(case l=>k_is);(case c=>k_is);(case k=>k_is))
  (case d15=>refine' L2.DefAt.mk' ?a ?l ?c ?k;(case a=>k_is);(case l=>k_is);(case c=>k_is);(case k=>k_is))
  (case d16=>refine' L2.DefAt.mk' ?a ?l ?c ?k;(case a=>k_is);(case l=>k_is);(case c=>k_is);(case k=>k_is))
  (case d17=>refine' L2.DefAt.mk' ?a ?l ?c ?k;(case a=>k_is);(case l=>k_is);(case c=>k_is);(case k=>k_is))
  (case d18=>refine' L2.DefAt.mk' ?a ?l ?c ?k;(case a=>k_is);(case l=>k_is);(case c=>k_is);(case k=>k_is))
  (case d19=>refine' L2.DefAt.mk' ?a ?l ?c ?k;(case a=>k_is);(case l=>k_is);(case c=>k_is);(case k=>k_is))
  (case d20=>refine' L2.DefAt.mk' ?a ?l ?c ?k;(case a=>k_is);(case l=>k_is);(case c=>k_is);(case k=>k_is))
  (case d21=>refine' L2.DefAt.mk' ?a ?l ?c ?k;(case a=>k_is);(case l=>k_is);(case c=>k_is);(case k=>k_is))
  (case d22=>refine' L2.DefAt.mk' ?a ?l ?c ?k;(case a=>k_is);(case l=>k_is);(case c=>k_is);(case k=>k_is))
  (case d23=>refine' L2.DefAt.mk' ?a ?l ?c ?k;(case a=>k_is);(case l=>k_is);(case c=>k_is);(case k=>k_is))
  (case d24=>refine' L2.DefAt.mk' ?a ?l ?c ?k;(case a=>k_is);(case l=>k_is);(case c=>k_is);(case k=>k_is))
  (case d25=>refine' L2.DefAt.mk' ?a ?l ?c ?k;(case a=>k_is);(case l=>k_is);(case c=>k_is);(case k=>k_is))
  (case d26=>refine' L2.DefAt.mk' ?a ?l ?c ?k;(case a=>k_is);(case l=>k_is);(case c=>k_is);(case k=>k_is))
  (case d27=>refine' L2.DefAt.mk' ?a ?l ?c ?k;(case a=>k_is);(case l=>k_is);(case c=>k_is);(case k=>k_is))
  (case d28=>refine' L2.DefAt.mk' ?a ?l ?c ?k;(case a=>k_is);(case l=>k_is);(case c=>k_is);(case k=>k_is))
  (case d29=>refine' L2.DefAt.mk' ?a ?l ?c ?k;(case a=>k_is);(case l=>k_is);(case c=>k_is);(case k=>k_is))
  (case d30=>refine' L2.DefAt.mk' ?a ?l ?c ?k;(case a=>k_is);(case l=>k_is);(case c=>k_is);(case k=>k_is))
  (case d31=>refine' L2.DefAt.mk' ?a ?l ?c ?k;(case a=>k_is);(case l=>k_is);(case c=>k_is);(case k=>k_is))
  (case d32=>refine' L2.DefAt.mk' ?a ?l ?c ?k;(case a=>k_is);(case l=>k_is);(case c=>k_is);(case k=>k_is))
  (case d33=>refine' L2.DefAt.mk' ?a ?l ?c ?k;(case a=>k_is);(case l=>k_is);(case c=>k_is);(case k=>k_is))
  (case d34=>refine' L2.DefAt.mk' ?a ?l ?c ?k;(case a=>k_is);(case l=>k_is);(case c=>k_is);(case k=>k_is))
  (case d35=>refine' L2.DefAt.mk' ?a ?l ?c ?k;(case a=>k_is);(case l=>k_is);(case c=>k_is);(case k=>k_is))
  (case d36=>refine' L2.DefAt.mk' ?a ?l ?c ?k;(case a=>k_is);(case l=>k_is);(case c=>k_is);(case k=>k_is))
  (case d37=>refine' L2.DefAt.mk' ?a ?l ?c ?k;(case a=>k_is);(case l=>k_is);(case c=>k_is);(case k=>k_is))
  (case d38=>refine' L2.DefAt.mk' ?a ?l ?c ?k;(case a=>k_is);(case l=>k_is);(case c=>k_is);(case k=>k_is))
  (case d39=>refine' L2.DefAt.mk' ?a ?l ?c ?k;(case a=>k_is);(case l=>k_is);(case c=>k_is);(case k=>k_is))
  (case d40=>refine' L2.DefAt.mk' ?a ?l ?c ?k;(case a=>k_is);(case l=>k_is);(case c=>k_is);(case k=>k_is))
  (case d41=>refine' L2.DefAt.mk' ?a ?l ?c ?k;(case a=>k_is);(case l=>k_is);(case c=>k_is);(case k=>k_is))
  (case z1=>k_is);(case z2=>k_is);(case z3=>k_is);(case z4=>k_is);(case z5=>k_is);(case z6=>k_is);(case z7=>k_is);(case z8=>k_is);(case z9=>k_is);(case z10=>k_is);(case z11=>k_is);(case z12=>k_is);(case z13=>k_is);(case z14=>k_is);(case z15=>k_is)
  case s1=>
   refine' K70.FtK.mk' ?aC ?pg ?hd ?po ?sa ?n1 ?n2 ?n3 ?mk ?kc ?m1 ?m2 ?m3 ?m4
   (case aC=>k_is);(case pg=>k_is);(case hd=>k_is);(case po=>k_is);(case sa=>k_is);(case n1=>k_is);(case n2=>k_is);(case n3=>k_is);(case mk=>k_is);(case kc=>k_is)
   (case m1=>refine' L2.MethAt.mk' ?a ?i ?l ?c ?k;(case a=>k_is);(case i=>k_is);(case l=>k_is);(case c=>k_is);(case k=>k_is))
   (case m2=>refine' L2.MethAt.mk' ?a ?i ?l ?c ?k;(case a=>k_is);(case i=>k_is);(case l=>k_is);(case c=>k_is);(case k=>k_is))
   (case m3=>refine' L2.MethAt.mk' ?a ?i ?l ?c ?k;(case a=>k_is);(case i=>k_is);(case l=>k_is);(case c=>k_is);(case k=>k_is))
   (case m4=>refine' L2.MethAt.mk' ?a ?i ?l ?c ?k;(case a=>k_is);(case i=>k_is);(case l=>k_is);(case c=>k_is);(case k=>k_is))
