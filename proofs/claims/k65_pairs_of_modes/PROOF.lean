import PyProof.Rows.All
import Wide.All
import OpenK.AllK
import Wide.FinOn
import Lean
import PyProof.EqAt
import PyProof.EqKinds
import PyProof.TupleCall
import KE.KSortTup
import KE.KLam
import KE.KNestM
import KE.KTryDeep
import KE.KTryOn
import OpenK.KOwn
import PyProof.FString
import PyProof.PureStr
import KE.KDictList
import PyProof.MeetsSeq
import PyProof.P3In
import PySem.Challenge.RW_turnery_k65_pairs_of_modes
set_option hygiene false
set_option compiler.extract_closed false
local macro_rules|`((0:))=>`(⟨rfl,rfl,rfl,by decide +kernel,rfl,by decide +kernel,by decide +kernel⟩)
local macro_rules|`((1:))=>`((by decide +kernel))
local macro_rules|`((2:))=>`((B (oT #[]) N N))
local macro_rules|`((3:))=>`((model X.prog X.w))
local macro_rules|`((4:))=>`((Qk Qj (pv 0) Qf (fun _ _=>rfl)))
local macro_rules|`((5:))=>`(⟨I.ok.mod,I.ok.kind,I.ok.glob,I.ok.blt,I.ok.above,I.ok.inj,I.ok.has,I.ok.cab,I.ok.hd,I.ok.frames,I.ok.stk,I.ok.exf,I.ok.bs,I.ok.bsz,I.ok.noex,I.ok.exfs,I.ok.funs,I.ok.frf⟩)
local macro_rules|`((6:))=>`((by lia))
local macro_rules|`((7:))=>`((Nat.le_refl _))
local macro_rules|`((8:))=>`((Addr × Obj))
local macro_rules|`((9:))=>`((envOfC qual scope s.heap.objs.size f cd))
local macro_rules|`((10:))=>`((by intro z;cases z))
local macro_rules|`((11:))=>`((fun vs H Q E h=>?_))
local macro_rules|`((12:))=>`((Qt X (xs ++ caps) scope cl C fp s₀ H₀))
local macro_rules|`((13:))=>`((Qn (CX1 P w) P w K mg base N qual scp f cd A outer s H E))
local macro_rules|`((14:))=>`(((s.heap.update a (Obj.mapSeq fun _=>(#[]:Array Value))).push (seqObj "tuple" vs.toArray 0)))
local macro_rules|`((15:))=>`((.ListComp elt [⟨tg,iter,ifs,0⟩] scope pos))
local macro_rules|`((16:))=>`((Qt X (xs ++ caps) scope cl s3.heap.objs.size fp s3 H3))
local macro_rules|`((17:))=>`((B (oE) N N))
local macro_rules|`((18:))=>`((by decide))
local macro_rules|`((19:))=>`((vS "turnery.straying" 328))
local macro_rules|`((20:))=>`((Qk Qj (pv 1) Qf (fun _ _=>rfl)))
local macro_rules|`((21:))=>`((by simp))
local macro_rules|`((22:))=>`((x == ("__debug__" : Str)))
local macro_rules|`((23:))=>`((s.heap.objs.size + 1))
local macro_rules|`((24:))=>`((fun r s'=>r=.ok (.ret (.bool true))/\OldK s₁.heap s'.heap/\s'.os=s₁.os/\AllBare s'.gens))
local macro_rules|`((25:))=>`((oT #[]))
local macro_rules|`((26:))=>`((fun _ _=>rfl))
local macro_rules|`((27:))=>`((model prog w))
local macro_rules|`((28:))=>`((Qn (CX1 P w) P w K mg base N qual scope f cd A outer s H E))
local macro_rules|`((29:))=>`((CompG.many (xs:=["kind", "rows"]) (caps:=[]) (cap:=[]) (cs:=[]) rfl rfl (1:) (1:) (1:) (1:) (1:) (1:) rfl rfl rfl))
local macro_rules|`((30:))=>`((by show 2<=sizeLine;decide))
local macro_rules|`((31:))=>`((PySem.W.hideAll B [s3.heap.objs.size]))
local macro_rules|`((32:))=>`((Or.inl rfl))
local macro_rules|`((33:))=>`((vS "turnery.behind" 442))
local macro_rules|`((34:))=>`((List.mem_cons_of_mem _ G))
local macro_rules|`((35:))=>`(⟨X.K,fs,ms,nr,sr⟩)
local macro_rules|`((36:))=>`((by rw [List.length_map];lia))
local macro_rules|`((37:))=>`((([Sum.inl q.1.1,Sum.inr q.1.2]:List Key),q.2))
local macro_rules|`((38:))=>`((Str × Addr))
local macro_rules|`((39:))=>`((backTo pos (starEach es X.env)))
local macro_rules|`((40:))=>`((∀ σ' H',N σ' H'->∃ m',m' < m/\W (i + 1) m' σ' H'))
local macro_rules|`((41:))=>`(⟨_,List.getElem?_eq_getElem (6:)⟩)
local macro_rules|`((42:))=>`((.lst (ks[j].2.2.2.map fun t=>V.ref t.1)))
local macro_rules|`((43:))=>`((fun y H6=>∃ ys,H6 acc=some (.lst ys)/\ys.length < sizeLine/\∃ m',m' < m/\W (i + 1) m' (upd H6 acc (.lst (ys ++ [y])))))
local macro_rules|`((44:))=>`((fun z=>nomatch z))
local macro_rules|`((45:))=>`((compEnvC scope cl s3.heap.objs.size X.env))
local macro_rules|`((46:))=>`((false,eval e X.env))
local macro_rules|`((47:))=>`((s.heap.push { cls:=.type "tuple_iterator", data:=.fields #[.ref t,.int 0 0] }))
local macro_rules|`((48:))=>`((List V->Hp->VK->Prop))
local macro_rules|`((49:))=>`(⟨f.p,f.w,f.K,f.m,f.b,by rw [f.A];exact G,f.c⟩)
local macro_rules|`((50:))=>`((.Call (.Name x p) (e :: es) [] pos))
local macro_rules|`((51:))=>`(⟨_,rfl⟩)
local macro_rules|`((52:))=>`((defScope st))
local macro_rules|`((53:))=>`((fun i ys H'=>H' acc=some (.lst ys)/\Same H H'/\R i ys H'/\ys.length<=i))
local macro_rules|`((54:))=>`(⟨by decide,by decide⟩)
local macro_rules|`((55:))=>`((fun _ _ _ _=>(Qx (Qa (pv 0) (Qa (QI (r:=XM K) ZN rfl G.lst PyProof.Rows.boot_list (Qa (pv 1) Qe)) Qe)))))
local macro_rules|`((56:))=>`((.k (.int 1)))
local macro_rules|`((57:))=>`(((Sum.inr t.2.1:Key),t.2.2))
local macro_rules|`((58:))=>`(⟨fun vs H Q E h=>absurd h (G vs H Q E),fun A outer s H L U vs Q E _ _ _ _ h=>absurd h (G vs H Q E)⟩)
local macro_rules|`((59:))=>`((Qt X ([x] ++ Q2 scope.names) scope cl C fp s₀ H₀))
local macro_rules|`((60:))=>`((∀ x c,X.env.cells.lookup x=some c->c≠b))
local macro_rules|`((61:))=>`((if ([]:List Keyword).isEmpty then 0 else 1))
local macro_rules|`((62:))=>`((B (25:) (17:) N))
local macro_rules|`((63:))=>`((.node (LP.put U (k' && k1) (if k'=true then L + a1 else L)) 0 os:TP))
local macro_rules|`((64:))=>`(((items.toList.drop (sIx items.size 0 lo)).take (sIx items.size items.size hi - sIx items.size 0 lo)))
local macro_rules|`((65:))=>`((Qm I q (21:)))
local macro_rules|`((66:))=>`((wpAny_pure ?_))
local macro_rules|`((67:))=>`((ts.map fun t=>V.ref t.1))
local macro_rules|`((68:))=>`((seqObj "list" #[] 0))
local macro_rules|`((69:))=>`((Heap.lt_size e))
local macro_rules|`((70:))=>`((ha pins s σ H _ I h))
local macro_rules|`((71:))=>`((ha pos pins s σ H _ I h))
local macro_rules|`((72:))=>`((List.getElem?_eq_some_iff.mp hx))
local macro_rules|`((73:))=>`((b ∈ X.ex\/X.s₀.heap.objs.size<=b))
local macro_rules|`((74:))=>`((EP X pins σ Q))
local macro_rules|`((75:))=>`((fun k=>decide (k.2.1=kind)))
local macro_rules|`((76:))=>`((by show 1<=sizeLine;decide))
local macro_rules|`((77:))=>`((vS "turnery.errors" 194))
local macro_rules|`((78:))=>`((.k (.int 0)))
local macro_rules|`((79:))=>`((A.under (.builtin "type.__call__" ⟨.ref C :: us,kw⟩)))
local macro_rules|`((80:))=>`((s.heap.push { cls:=.type "range", data:=.fields #[.int lo t,.int hi u,.int 1 v] }))
local macro_rules|`((81:))=>`((Value.builtin "__main__.__loader__#opaque"))
local macro_rules|`((82:))=>`((.ref f))
local macro_rules|`((83:))=>`((defBody st))
local macro_rules|`((84:))=>`((he pins s σ H _ I h))
local macro_rules|`((85:))=>`(⟨_,rfl,a,PUT,_,rfl,h1,_,rfl,Jy (1:) ?_⟩)
local macro_rules|`((86:))=>`(⟨_,q,fun x H1 q=>?_⟩)
local macro_rules|`((87:))=>`(⟨⟨xs,xs[i],hl _ _ _ (Nat.le_of_lt hi) p,List.getElem?_eq_getElem hi⟩,?_⟩)
local macro_rules|`((88:))=>`((List Key × V))
local macro_rules|`((89:))=>`((comprehension (15:) scope X.env pos' (newList []) false (eval iter X.env) use))
local macro_rules|`((90:))=>`((.dK ((l.map fun q=>(q.1,q.2.2)).map fun q=>((Sum.inr q.1.2.1:Key),V.ref q.2))))
local macro_rules|`((91:))=>`((cxL (CX1 P w) P w K mg base (x :: N) qual (Qu e) cl f (.ref c) A outer s H E))
local macro_rules|`((92:))=>`((fun _ _ _ _=>Q1))
local macro_rules|`((93:))=>`((Qk Qj (pv 3) Qf (26:)))
local macro_rules|`((94:))=>`((B (25:) (2:) N))
local macro_rules|`((95:))=>`(⟨(5:),I.os,I.bare,I.base,I.loc,I.cell,I.free,I.freeC,I.pin,I.hok,I.len⟩)
local macro_rules|`((96:))=>`((c.blt G3.call_len G.len PySem.boot_len))
local macro_rules|`((97:))=>`((Wf qual scope cl s.heap.objs.size f cd))
local macro_rules|`((98:))=>`((by show 3<=sizeLine;decide))
local macro_rules|`((99:))=>`((by show 0<=sizeLine;decide))
set_option genSizeOf false
set_option bootstrap.genMatcherCode false
local macro_rules
 | `($m:declModifiers def $i:declId $s:optDeclSig $v:declVal)=>if m.raw.getArgs.all (·.isNone) then `(noncomputable def $i:declId $s:optDeclSig $v:declVal) else Lean.Macro.throwUnsupported
 | `($m:declModifiers abbrev $i:declId $s:optDeclSig $v:declVal)=>if m.raw.getArgs.all (·.isNone) then `(noncomputable abbrev $i:declId $s:optDeclSig $v:declVal) else Lean.Macro.throwUnsupported
abbrev Fg:=PySem.W.Frag
noncomputable section
set_option Elab.async false
set_option linter.all false
set_option maxRecDepth 100000
namespace L2
open PySem PySem.Spec PyProof.Rows
abbrev Key:=Sum Int Str
def JO:Key->Value->Bool
 | .inl k,v=>Value.isInt k v
 | .inr x,v=>Value.isStrOf x v
def T9(w:World):Key->Int
 | .inl k=>hashInt k
 | .inr x=>hashStr w x
theorem QE:∀{k:Key}{v:Value},JO k v=true->(∃i t,k=Sum.inl i/\v=Value.int i t)\/(∃x t,k=Sum.inr x/\v=Value.str x t)
 | .inl i,v,h=>by
  obtain⟨t,e⟩:=Value.isInt_shape (k:=i) (v:=v) h;exact .inl ⟨i,t,rfl,e⟩
 | .inr x,v,h=>by
  obtain⟨t,e⟩:=Value.isStrOf_shape (x:=x) (v:=v) h;exact .inr ⟨x,t,rfl,e⟩
theorem GM(i:Int)(t:Tok):JO (.inl i) (.int i t)=true:=by simp [JO,Value.isInt]
theorem GY(x:Str)(t:Tok):JO (.inr x) (.str x t)=true:=by simp [JO,Value.isStrOf]
theorem Ry(a b:Int):decide ((Sum.inl a:Key)=Sum.inl b)=(a==b):=by
 by_cases e:a=b
 .subst e;simp
 .have h:¬(Sum.inl a:Key)=Sum.inl b:=λq=>e (Sum.inl.inj q);rw [decide_eq_false h];exact(beq_eq_false_iff_ne.mpr e).symm
theorem Sh(a b:Str):decide ((Sum.inr a:Key)=Sum.inr b)=decide (a=b):=by
 by_cases e:a=b
 .subst e;simp
 .have h:¬(Sum.inr a:Key)=Sum.inr b:=λq=>e (Sum.inr.inj q);rw [decide_eq_false h,decide_eq_false e]
theorem RX(a:Int)(b:Str):decide ((Sum.inl a:Key)=Sum.inr b)=false:=decide_eq_false (λq=>nomatch q)
theorem PM(a:Str)(b:Int):decide ((Sum.inr a:Key)=Sum.inl b)=false:=decide_eq_false (λq=>nomatch q)
def Qp(prog:Program)(w:World):PySem.KeyKind prog w Key where
 is:=JO
 hash:=T9 w
 inj:=λv a b ha hb=>by
  rcases QE ha with⟨i,t,rfl,rfl⟩ | ⟨x,t,rfl,rfl⟩
  .rcases QE hb with⟨j,u,rfl,e⟩ | ⟨y,u,rfl,e⟩
   .injection e with e1 _;rw [e1]
   .exact nomatch e
  .rcases QE hb with⟨j,u,rfl,e⟩ | ⟨y,u,rfl,e⟩
   .exact nomatch e
   .injection e with e1 _;rw [e1]
 byValue:=λk v h=>by
  rcases QE h with⟨i,t,rfl,rfl⟩ | ⟨x,t,rfl,rfl⟩<;>rfl
 pyHash:=λhv h=>by
  rcases QE hv with⟨i,t,rfl,rfl⟩ | ⟨x,t,rfl,rfl⟩
  .exact wpAny_pyHash_int h
  .exact wpAny_pyHash_str h
 eqBool:=λhu hv h=>by
  rcases QE hu with⟨i,t,rfl,rfl⟩ | ⟨x,t,rfl,rfl⟩
  .rcases QE hv with⟨j,u,rfl,rfl⟩ | ⟨y,u,rfl,rfl⟩
   .rw [Ry]at h;exact wpAny_eqBool_int h
   .rw [RX]at h;exact SeqAt.EqAt.int_str i t y u _ _ _ _ h
  .rcases QE hv with⟨j,u,rfl,rfl⟩ | ⟨y,u,rfl,rfl⟩
   .rw [PM]at h;exact SeqAt.EqAt.str_int x t j u _ _ _ _ h
   .rw [Sh]at h;exact wpAny_eqBool_str h
 «strs»:=λk x t v h=>by
  rcases QE h with⟨i,u,rfl,e⟩ | ⟨y,u,rfl,e⟩
  .exact nomatch e
  .injection e with e1 _;subst e1;cases v<;>rfl
theorem WN(prog:Program)(w:World)(i:Int)(t:Tok):(Qp prog w).is (.inl i) (.int i t)=true:=GM i t
theorem WT(prog:Program)(w:World)(x:Str)(t:Tok):(Qp prog w).is (.inr x) (.str x t)=true:=GY x t
end L2
namespace L2
open PySem PySem.Spec PyProof.Rows
inductive V where
 | non | bl (b:Bool) | int (i:Int) | str (x:Str) | byt (b:Array UInt8) | flt (b:UInt64) | ref (a:Addr) | ty (n:String)
 deriving DecidableEq
def RelV:V->Value->Prop
 | .non,u=>u=Value.none
 | .bl b,u=>u=Value.bool b
 | .int i,u=>∃t,u=Value.int i t
 | .str x,u=>∃t,u=Value.str x t
 | .byt b,u=>∃t,u=Value.bytes b t
 | .flt b,u=>∃t,u=Value.float b t
 | .ref a,u=>u=Value.ref a
 | .ty n,u=>u=Value.type n
abbrev Vals:List V->List Value->Prop:=Paired RelV
theorem Vals.length{xs:List V}{us:List Value}(r:Vals xs us):xs.length=us.length:=Paired.length r
theorem Vals.get:∀{xs:List V}{us:List Value}{i:Nat}{x:V},Vals xs us->xs[i]?=some x->∃u,us[i]?=some u/\RelV x u
 | _,_,_,_,.nil,e=>by simp at e
 | _,_,0,_,.cons r _,e=>by simp at e;subst e;exact⟨_,rfl,r⟩
 | _,_,i+1,x,.cons _ t,e=>by
  obtain⟨u,h1,h2⟩:=Vals.get (i:=i) (x:=x) t (by simpa using e);exact⟨u,by simpa using h1,h2⟩
theorem Vals.set{x:V}{u:Value}(r:RelV x u):∀{xs:List V}{us:List Value}(i:Nat),Vals xs us->Vals (xs.set i x) (us.set i u)
 | _,_,_,.nil=>.nil
 | _,_,0,.cons _ t=>.cons r t
 | _,_,i+1,.cons q t=>.cons q (Vals.set r i t)
theorem Vals.append:∀{xs ys:List V}{us ws:List Value},Vals xs us->Vals ys ws->Vals (xs++ys) (us++ws)
 | _,_,_,_,.nil,s=>s
 | _,_,_,_,.cons r t,s=>.cons r (Vals.append t s)
theorem Vals.take:∀{xs:List V}{us:List Value}(n:Nat),Vals xs us->Vals (xs.take n) (us.take n)
 | _,_,0,_=>.nil
 | _,_,_+1,.nil=>.nil
 | _,_,n+1,.cons r t=>.cons r (Vals.take n t)
theorem Vals.drop:∀{xs:List V}{us:List Value}(n:Nat),Vals xs us->Vals (xs.drop n) (us.drop n)
 | _,_,0,r=>r
 | _,_,_+1,.nil=>.nil
 | _,_,n+1,.cons _ t=>Vals.drop n t
def RelO:Option V->Option Value->Prop
 | some v,some u=>RelV v u
 | none,none=>True
 | _,_=>False
def KV{κ:Type}:List (κ×V)->List (κ×Value)->Prop:=Paired λ(p:κ×V)(q:κ×Value)=>p.1=q.1/\RelV p.2 q.2
def kV:Key->V
 | .inl i=>.int i
 | .inr x=>.str x
inductive HO where
 /--a list-/
 | lst (xs:List V)
 /--a tuple (never changes)-/
 | tup (xs:List V)
 /--a dict whose keys are ints and texts;one whose keys are tuples of ints and texts (the empty one is both)-/
 | dK (kvs:List (Key×V)) | dT (kvs:List (88:))
 /--a set of ints:its members,its size-/
 | set (S:Int->Bool) (n:Nat)
 /--an instance of the class at C,its dict at dx,its attributes-/
 | ins (C dx:Addr) (fs:List (Str×V))
 /--the dict of the instance at x-/
 | own (x:Addr)
 /--the dict of an exception-/
 | xd (fs:List (Str×V))
 /--a bound method,f of x-/
 | met (f x:Addr)
 /--a range object lo,lo+1,.. below hi-/
 | rng (lo hi:Int)
 /--a thing that is known to the object (the script;a dict while a loop walks it):read,never written while it is so-/
 | frz (o:Obj) (u:HO)
 /--a code object's table-/
 | tbl (ps:Array Value)
 /--any other thing,by what is true of its one object (a def of one's own:SetO a S n:=HO.ext λh=>..)-/
 | ext (φ:Heap->Prop)
abbrev Hp:=Addr->Option HO
def upd(H:Hp)(a:Addr)(o:HO):Hp:=λb=>if b=a then some o else H b
theorem Qb{H:Hp}{a:Addr}{o:HO}:upd H a o a=some o:=by unfold upd;rw [if_pos rfl]
theorem Qg{H:Hp}{a b:Addr}{o:HO}(h:b≠a):upd H a o b=H b:=by unfold upd;rw [if_neg h]
theorem ne_of{H:Hp}{a b:Addr}{o u:HO}(h:H a=some o)(h':H b=some u)(d:o≠u):a≠b:=by
 intro e;subst e;rw [h]at h';exact d (Option.some.inj h')
theorem Qd{H:Hp}{a b:Addr}{o:HO}(h:H a=some o)(h':H b=none):a≠b:=by
 intro e;subst e;rw [h]at h';cases h'
section
variable(P:Program)(w:World)
def ObjOk(H:Hp)(h:Heap)(a:Addr):HO->Prop
 | .lst xs=>xs.length<=sizeLine/\∃(its:List Value)(n:Nat),Vals xs its/\h.get? a=some { cls:=.type "list",data:=.seq its.toArray n }
 | .tup xs=>xs.length<=sizeLine/\∃its:List Value,Vals xs its/\IsTup h a its.toArray
 | .dK kvs=>kvs.length<=sizeLine/\(a==sysModules)=false/\∃vs,KV kvs vs/\h.DictOf (Qp P w) a vs
 | .dT kvs=>kvs.length<=sizeLine/\(a==sysModules)=false/\∃xs:List (List Key×Addr×Value),
  Paired (λ(p:List Key×V)(q:List Key×Addr×Value)=>p.1=q.1/\H q.2.1=some (.tup (p.1.map kV))/\RelV p.2 q.2.2) kvs xs/\
  ∃o es ep,h.get? a=some o/\o.ExactDict/\o.data=.dict es ep/\es.toList=xs.map (entryOfKey (tupleKind (Qp P w)))/\(xs.map (·.1)).Nodup
 | .set S n=>h.SetOf (intKind P w) a S n
 | .ins C dx fs=>H dx=some (.own a)/\fs.length<=1000/\dx≠a/\h.get? a=some (PySem.W.instObj C dx)/\
  ∃mA,h.Ns1 dx mA/\(∀f,RelO (fs.lookup f) (mA f))/\PySem.Within mA (fs.map (·.1))
 | .own _=>∃o,h.get? a=some o
 | .xd fs=>∃mA,h.Ns1 a mA/\∀f,RelO (fs.lookup f) (mA f)
 | .rng lo hi=>∃t u v,h.get? a=some { cls:=.type "range",data:=.fields #[.int lo t,.int hi u,.int 1 v] }
 | .frz o u=>h.get? a=some o/\ObjOk H h a u
 | .tbl ps=>h.get? a=some { cls:=.none,data:=.fields ps }
 | .met f x=>h.get? a=some (PySem.W.methodObj (82:) (.ref x))
 | .ext φ=>φ h/\(∃o,h.get? a=some o)/\∀h1 h2:Heap,φ h1->(∀o,h1.get? a=some o->h2.get? a=some o)->φ h2
def HOk(H:Hp)(h:Heap):Prop:=∀a o,H a=some o->ObjOk P w H h a o
end
section
variable{P:Program}{w:World}{H H':Hp}{h h':Heap}{a:Addr}{o:HO}
theorem ObjOk.lt(x:ObjOk P w H h a o):a<h.objs.size:=by
 cases o with
 | lst xs=>obtain⟨_,_,_,_,e⟩:=x;exact Heap.lt_size e
 | tup xs=>obtain⟨_,_,_,p⟩:=x;exact p.lt
 | dK kvs=>obtain⟨_,_,_,_,o,_,_,e,_⟩:=x;exact Heap.lt_size e
 | dT kvs=>obtain⟨_,_,_,_,o,_,_,e,_⟩:=x;exact Heap.lt_size e
 | set S n=>obtain⟨o,_,_,_,e,_⟩:=x;exact Heap.lt_size e
 | ins C dx fs=>obtain⟨_,_,_,e,_⟩:=x;exact Heap.lt_size e
 | own y=>obtain⟨_,e⟩:=x;exact Heap.lt_size e
 | xd fs=>obtain⟨_,⟨_,_,_,e,_⟩,_⟩:=x;exact Heap.lt_size e
 | rng lo hi=>obtain⟨_,_,_,e⟩:=x;exact Heap.lt_size e
 | frz G u=>obtain⟨e,_⟩:=x;exact Heap.lt_size e
 | tbl ps=>exact Heap.lt_size (show h.get? a=some _ from x)
 | met f y=>exact Heap.lt_size (show h.get? a=some _ from x)
 | ext J=>obtain⟨_,⟨_,e⟩,_⟩:=x;exact Heap.lt_size e
theorem Paired.mapP{α β:Type}{F G:α->β->Prop}:∀{l₁:List α}{l₂:List β},Paired F l₁ l₂->(∀a b,F a b->G a b)->Paired G l₁ l₂
 | _,_,.nil,_=>.nil
 | _,_,.cons r t,f=>.cons (f _ _ r) (Paired.mapP t f)
theorem ObjOk.stay(x:ObjOk P w H h a o)(k:∀b u,(b=a\/H b=some (.own a))->h.get? b=some u->h'.get? b=some u)
 (ho:∀b,H b=some (.own a)->H' b=some (.own a)) (ht:∀b xs,H b=some (.tup xs)->H' b=some (.tup xs)):ObjOk P w H' h' a o:=by
 induction o with
 | lst xs=>obtain⟨z,its,n,r,e⟩:=x;exact⟨z,its,n,r,k _ _ (.inl rfl) e⟩
 | tup xs=>obtain⟨z,its,r,G,e,c⟩:=x;exact⟨z,its,r,G,k _ _ (.inl rfl) e,c⟩
 | dK kvs=>obtain⟨z,y,vs,r,G,es,ep,e,c⟩:=x;exact⟨z,y,vs,r,G,es,ep,k _ _ (.inl rfl) e,c⟩
 | dT kvs=>
  obtain⟨z,y,xs,r,G,es,ep,e,c⟩:=x;exact⟨z,y,xs,Paired.mapP r λp q z=>⟨z.1,ht _ _ z.2.1,z.2.2⟩,G,es,ep,k _ _ (.inl rfl) e,c⟩
 | set S n=>obtain⟨G,es,ep,t,e,c⟩:=x;exact⟨G,es,ep,t,k _ _ (.inl rfl) e,c⟩
 | ins C dx fs=>
  obtain⟨d,z,L,e,mA,⟨J,es,ep,e2,c⟩,r⟩:=x;exact⟨ho _ d,z,L,k _ _ (.inl rfl) e,mA,⟨J,es,ep,k _ _ (.inr d) e2,c⟩,r⟩
 | own y=>obtain⟨G,e⟩:=x;exact⟨G,k _ _ (.inl rfl) e⟩
 | xd fs=>obtain⟨mA,⟨J,es,ep,e,c⟩,r⟩:=x;exact⟨mA,⟨J,es,ep,k _ _ (.inl rfl) e,c⟩,r⟩
 | rng lo hi=>obtain⟨t,u,v,e⟩:=x;exact⟨t,u,v,k _ _ (.inl rfl) e⟩
 | frz G u U=>obtain⟨e,q⟩:=x;exact⟨k _ _ (.inl rfl) e,U q⟩
 | tbl ps=>
  have e:h.get? a=some { cls:=.none,data:=.fields ps }:=x;show h'.get? a=some { cls:=.none,data:=.fields ps };exact k a _ (.inl rfl) e
 | met f y=>
  have e:h.get? a=some (PySem.W.methodObj (82:) (.ref y)):=x;show h'.get? a=some (PySem.W.methodObj (82:) (.ref y));exact k a _ (.inl rfl) e
 | ext Y=>obtain⟨p,⟨o,e⟩,st⟩:=x;exact⟨st _ _ p λo q=>k _ _ (.inl rfl) q,⟨o,k _ _ (.inl rfl) e⟩,st⟩
theorem HOk.lt(x:HOk P w H h)(e:H a=some o):a<h.objs.size:=(x a o e).lt
theorem HOk.fresh(x:HOk P w H h)(e:h.objs.size<=a):H a=none:=by
 cases q:H a with
 | none=>rfl
 | some u=>exact absurd (Nat.lt_of_lt_of_le (x.lt q) e) (Nat.lt_irrefl _)
theorem HOk.kept(x:HOk P w H h)(k:∀b u,h.get? b=some u->h'.get? b=some u):HOk P w H h':=λa o e=>
 (x a o e).stay (λb u _ q=>k b u q) (λ_ q=>q) λ_ _ q=>q
theorem HOk.laid(x:HOk P w H h)(k:∀b u,h.get? b=some u->h'.get? b=some u)(hp:h.objs.size<=a)(new:ObjOk P w (upd H a o) h' a o):HOk P w (upd H a o) h':=λb u e=>by
 have G:=x.fresh hp
 by_cases J:b=a
 .subst J;rw [Qb]at e;cases e;exact new
 .rw [Qg J]at e;exact(x b u e).stay (λc v _ q=>k c v q) (λc q=>by rw [Qg (Qd q G)];exact q) λc xs q=>by rw [Qg (Qd q G)];exact q
end
def Rd(H:Hp)(a:Addr)(u:HO):Prop:=H a=some u\/∃o,H a=some (.frz o u)
theorem Rd.ok{P:Program}{w:World}{H:Hp}{h:Heap}{a:Addr}{u:HO}(r:Rd H a u)(x:HOk P w H h):ObjOk P w H h a u:=by
 rcases r with r | ⟨o,r⟩
 .exact x a u r
 .obtain⟨_,q⟩:=x a _ r;exact q
def Mut:Option HO->Prop
 | some (.lst _)=>True
 | some (.dK _)=>True
 | some (.dT _)=>True
 | some (.set _ _)=>True
 | some (.ins _ _ _)=>True
 | some (.ext _)=>True
 | _=>False
section
variable{P:Program}{w:World}{H:Hp}{h h':Heap}{x e:Addr}{o':HO}
theorem HOk.write(ok:HOk P w H h)(mu:Mut (H x))(he:e=x\/H e=some (.own x))(k:∀b u,b≠e->h.get? b=some u->h'.get? b=some u)(heo:∃u,h'.get? e=some u)
 (new:ObjOk P w (upd H x o') h' x o'):HOk P w (upd H x o') h':=λb u q=>by
 have J:∀c y,H c=some (.own y)->c≠x:=λc y r z=>by subst z;rw [r]at mu;exact mu
 have U:∀c xs,H c=some (.tup xs)->c≠x:=λc xs r z=>by subst z;rw [r]at mu;exact mu
 by_cases L:b=x
 .subst L;rw [Qb]at q;cases q;exact new
 .rw [Qg L]at q
  by_cases G:b=e
  .have Y:H b=some (.own x):=by
    rcases he with z | z
    .exact absurd (G.trans z) L
    .rw [G];exact z
   rw [q]at Y;cases Y;obtain⟨v,Z⟩:=heo;exact⟨v,by rw [G];exact Z⟩
  .refine(ok b u q).stay (λc v hc r=>k c v ?_ r) (λc r=>by rw [Qg (J c b r)];exact r) λc xs r=>by rw [Qg (U c xs r)];exact r
   rcases hc with rfl | hc
   .exact G
   .rintro rfl;rcases he with z | z
    .exact J c b hc z
    .rw [hc]at z;cases z;exact L rfl
end
structure Un(fs ex:List Addr)(H H':Hp)(h h':Heap):Prop where
 keep:∀b o,h.get? b=some o->H b=none->b∉fs->b∉ex->h'.get? b=some o
 slot:∀b o,h.get? b=some o->H b=none->b∈fs->b∉ex->∃sl,h'.get? b=some { o with slots:=sl }
 free:∀b o,h.get? b=some o->H b=none->b∉ex->H' b=none
 there:∀b o,h.get? b=some o->b∉ex->∃o',h'.get? b=some o'
 tups:∀b xs,H b=some (.tup xs)->H' b=some (.tup xs)
 frzs:∀b o u,H b=some (.frz o u)->H' b=some (.frz o u)
 tbls:∀b ps,H b=some (.tbl ps)->∃more,H' b=some (.tbl (ps++more))
section
variable{fs fs' ex ex':List Addr}{H H1 H2:Hp}{h h1 h2 h':Heap}{a x e:Addr}{o:HO}
theorem Un.any(u:Un fs ex H H1 h h1){b:Addr}{ob:Obj}(q:h.get? b=some ob)(n:H b=none)(hx:b∉ex):∃sl,h1.get? b=some { ob with slots:=sl }:=by
 by_cases G:b∈fs
 .exact u.slot b ob q n G hx
 .exact⟨ob.slots,u.keep b ob q n G hx⟩
theorem Un.kept(k:∀b u,h.get? b=some u->h'.get? b=some u):Un fs ex H H h h':=
 ⟨λb G q _ _ _=>k b G q,λb G q _ _ _=>⟨G.slots,k b G q⟩,λ_ _ _ n _=>n,λb G q _=>⟨G,k b G q⟩,λ_ _ q=>q,λ_ _ _ q=>q,λ_ ps q=>⟨#[],by rw [q];simp⟩⟩
theorem Un.refl:Un fs ex H H h h:=Un.kept λ_ _ q=>q
theorem Un.laid(k:∀b u,h.get? b=some u->h'.get? b=some u)(hp:h.objs.size<=a)(hn:H a=none):Un fs ex H (upd H a o) h h' where
 keep:=λb u q _ _ _=>k b u q
 slot:=λb u q _ _ _=>⟨u.slots,k b u q⟩
 free:=λb u q n _=>by rw [Qg (Nat.ne_of_lt (Nat.lt_of_lt_of_le (Heap.lt_size q) hp))];exact n
 there:=λb u q _=>⟨u,k b u q⟩
 tups:=λb xs q=>by rw [Qg (Qd q hn)];exact q
 frzs:=λb u xs q=>by rw [Qg (Qd q hn)];exact q
 tbls:=λb ps q=>⟨#[],by rw [Qg (Qd q hn),q];simp⟩
theorem Un.write(mu:Mut (H x))(he:e=x\/H e=some (.own x))(k:∀b u,b≠e->h.get? b=some u->h'.get? b=some u)(heo:∃u,h'.get? e=some u):Un fs ex H (upd H x o) h h':=by
 have L:∀b,H b=none->b≠x:=λb n z=>by subst z;rw [n]at mu;exact mu
 have U:∀b,H b=none->b≠e:=λb n z=>by
  subst z;rcases he with r | r
  .exact L b n r
  .rw [n]at r;cases r
 have J:∀b u,H b=some u->¬Mut (some u)->b≠x:=λb u q nm z=>by subst z;rw [q]at mu;exact nm mu
 refine⟨λb u q n _ _=>k b u (U b n) q,λb u q n _ _=>⟨u.slots,k b u (U b n) q⟩,λb u q n _=>by rw [Qg (L b n)];exact n,λb u q _=>?_,λb xs q=>by rw [Qg (J b _ q λz=>z)];exact q,λb u xs q=>by rw [Qg (J b _ q λz=>z)];exact q,λb ps q=>⟨#[],by rw [Qg (J b _ q λz=>z),q];simp⟩⟩
 by_cases G:b=e
 .subst G;exact heo
 .exact⟨u,k b u G q⟩
end
def trk(h:Heap)(H:Hp):List Addr:=(List.range h.objs.size).filter λa=>(H a).isSome
def YA(h:Heap)(H:Hp):Heap:=PySem.W.hideAll h (trk h H)
theorem JY(h:Heap)(H:Hp):(YA h H).objs.size=h.objs.size:=PySem.W.hideAll_size _ _
theorem WR{h:Heap}{H:Hp}{b:Addr}{o:Obj}(e:h.get? b=some o)(n:H b=none):(YA h H).get? b=some o:=
 PySem.W.hideAll_get _ e λG=>by
  have q:(H b).isSome=true:=(List.mem_filter.mp G).2;rw [n]at q;simp at q
theorem V5{h:Heap}{H:Hp}{b:Addr}{o:Obj}(e:(YA h H).get? b=some o):h.get? b=some o/\H b=none:=by
 have G:h.get? b=some o:=PySem.W.of_hideAll (trk h H) e;refine⟨G,?_⟩;cases q:H b with
 | none=>rfl
 | some x=>
  have J:b∈trk h H:=List.mem_filter.mpr ⟨List.mem_range.mpr (Heap.lt_size G),by simp [q]⟩;have z:(YA h H).get? b=none:=PySem.W.hideAll_none (trk h H) J;rw [z]at e;cases e
def OR(g h:Heap)(L:Addr):List (8:):=(List.range h.objs.size).filterMap λa=>if a=L\/(g.get? a).isSome=true then none else(h.get? a).map λo=>(a,o)
def rest(g h:Heap)(L d:Addr):List (8:):=(OR g h L).filter λp=>decide (p.1≠d)
end L2
namespace L2
open PySem PySem.Spec PyProof.Rows
structure Mod(K:Fg)(mg:Str->Option Value)(base:Heap):Prop where
 kin:K.In base
 glob:base.Ns mainGlobals mg
 blt:∃mb,base.Ns builtinsNs mb/\∀x:Str,x≠"__name__"->mb x=bootBuiltins x
 nolimit:base.NoLimit
structure Cx where
 prog:Program
 w:World
 K:Fg
 mg:Str->Option Value
 base:Heap
 A:Around
 N:List Str
 s₀:Shared
 H₀:Hp
 env:Env
 outer:List Env
 stack:List Env
 ex:List Addr
 fn:Str->Bool
 calm:Bool
 pn:List (8:)
 xe:Value->Shared->Prop
def frs(l:List Env):List Addr:=l.filterMap (·.frame)
abbrev Cx.fs(X:Cx):List Addr:=frs X.outer
def Vis(sc:Scope)(x:Str):Prop:=sc.names.lookup x=some .local\/sc.names.lookup x=some .cell\/sc.names.lookup x=some .free
def Loc(sc:Scope)(x:Str):Prop:=sc.names.lookup x=some .local\/sc.names.lookup x=some .cell
def Ay(env:Env)(h:Heap)(m:Str->Option Value)(x:Str)(u:Value):Prop:=
 (env.kindOf x=some .local/\m x=some u)\/((env.kindOf x=some .cell\/env.kindOf x=some .free)/\∃c,env.cells.lookup x=some c/\h.IsCell c (some u))
structure Cx.Ok(X:Cx):Prop where
 mod:Mod X.K X.mg X.base
 kind:X.env.scope.kind=.function
 glob:X.env.globals=mainGlobals
 blt:X.env.builtins=builtinsNs
 above:X.s₀.heap.objs.size<=X.env.locals
 inj:∀x y c,X.env.cells.lookup x=some c->X.env.cells.lookup y=some c->x=y
 has:∀x,(X.env.kindOf x=some .cell\/X.env.kindOf x=some .free)->∃c,X.env.cells.lookup x=some c
 cab:∀x c,X.fn x=true->X.env.cells.lookup x=some c->X.s₀.heap.objs.size<=c
 hd:X.calm=true->X.A.handled=none
 frames:X.A.frames=some X.stack
 stk:X.stack=X.outer\/(X.stack=X.env::X.outer/\X.env.frame=some X.env.locals)
 exf:∀b∈X.ex,b≠X.env.locals/\∀x c,X.env.cells.lookup x=some c->c≠b
 bs:∀b o,X.base.get? b=some o->X.s₀.heap.get? b=some o/\X.H₀ b=none
 bsz:X.base.objs.size<=X.s₀.heap.objs.size
 noex:∀b o,X.base.get? b=some o->b∉X.ex
 exfs:∀b∈X.ex,b∉X.fs
 funs:X.s₀.heap.FunFrames X.base X.outer
 frf:∀b∈X.fs,X.H₀ b=none
structure Inv(X:Cx)(pins:List (8:))(σ:List (Option V))(H:Hp)(s:Shared):Prop where
 ok:X.Ok
 os:s.os=X.s₀.os
 bare:AllBare s.gens
 base:Un X.fs X.ex X.H₀ H X.s₀.heap s.heap
 loc:∃m,s.heap.Ns X.env.locals m/\∀(i:Nat)(x:Str)(v:V),X.N[i]?=some x->σ[i]?=some (some v)->Vis X.env.scope x->∃u,RelV v u/\Ay X.env s.heap m x u
 cell:∀x c,X.env.cells.lookup x=some c->∃v,s.heap.IsCell c v
 free:H X.env.locals=none
 freeC:∀x c,X.env.cells.lookup x=some c->H c=none
 pin:∀p∈X.pn++pins,s.heap.get? p.1=some p.2/\H p.1=none/\p.1≠X.env.locals/\p.1∉X.fs/\∀v,p.2.data≠.cell v
 hok:HOk X.prog X.w H s.heap
 len:σ.length=X.N.length
section
variable{X:Cx}{pins:List (8:)}{σ:List (Option V)}{H H':Hp}{s:Shared}{h':Heap}
theorem Cx.Ok.nofr(ok:X.Ok){b:Addr}{o:Obj}(e:X.base.get? b=some o):b∉X.fs:=λG=>by
 have:=(ok.funs.mem G).1;rw [e]at this;cases this
theorem Inv.bs(I:Inv X pins σ H s):∀b o,X.base.get? b=some o->s.heap.get? b=some o/\H b=none:=λb o e=>
 ⟨I.base.keep b o (I.ok.bs b o e).1 (I.ok.bs b o e).2 (I.ok.nofr e) (I.ok.noex b o e),I.base.free b o (I.ok.bs b o e).1 (I.ok.bs b o e).2 (I.ok.noex b o e)⟩
theorem Inv.bk(I:Inv X pins σ H s):∀b o,X.base.get? b=some o->s.heap.get? b=some o:=λb o e=>(I.bs b o e).1
theorem Inv.mod(I:Inv X pins σ H s):Mod X.K X.mg X.base:=I.ok.mod
theorem Inv.kIn(I:Inv X pins σ H s):X.K.In s.heap:=I.ok.mod.kin.keeps I.bk
theorem Inv.lt(I:Inv X pins σ H s):X.env.locals<s.heap.objs.size:=let⟨_,G,_⟩:=I.loc;G.lt
theorem Inv.sz(I:Inv X pins σ H s):X.s₀.heap.objs.size<=s.heap.objs.size:=Nat.le_trans I.ok.above (Nat.le_of_lt I.lt)
theorem Inv.nofs(I:Inv X pins σ H s){a:Addr}(h:s.heap.objs.size<=a):a∉X.fs:=λG=>by
 obtain⟨_,o,J,_⟩:=I.ok.funs.mem G;exact absurd (Nat.lt_of_lt_of_le (Heap.lt_size J) (Nat.le_trans I.sz h)) (Nat.lt_irrefl _)
theorem Inv.cne(I:Inv X pins σ H s):∀x c,X.env.cells.lookup x=some c->c≠X.env.locals:=λx c e z=>by
 obtain⟨v,o,G,J⟩:=I.cell x c e;obtain⟨m,⟨o',es,ep,L,U,_⟩,_⟩:=I.loc;rw [z,L]at G;cases G;rw [U]at J;cases J
theorem Inv.funs(I:Inv X pins σ H s):s.heap.FunFrames X.base X.outer:=by
 have all:∀(l:List Env),(∀b∈frs l,b∈X.fs)->X.s₀.heap.FunFrames X.base l->s.heap.FunFrames X.base l:=by
  intro l
  induction l with
  | nil=>intro _ _;trivial
  | cons env r Z=>
   intro Y hl;obtain⟨hk,⟨L,o,G,hn,ho,hd⟩,hr⟩:=hl;have J:L∈X.fs:=Y L (by unfold frs;rw [List.filterMap_cons,G];exact List.mem_cons_self);obtain⟨sl,e⟩:=I.base.slot L o ho (I.ok.frf L J) J λz=>I.ok.exfs L z J;exact⟨hk,⟨L,_,G,hn,e,hd⟩,Z (λb U=>Y b (by unfold frs;rw [List.filterMap_cons,G];exact List.mem_cons_of_mem _ U)) hr⟩
 exact all X.outer (λ_ U=>U) I.ok.funs
theorem Inv.stack(I:Inv X pins σ H s):s.heap.FunFrames X.base X.stack:=by
 rcases I.ok.stk with e | ⟨e,G⟩
 .rw [e];exact I.funs
 .rw [e];obtain⟨m,J,_⟩:=I.loc;refine .cons (by rw [I.ok.kind];decide) G J ?_ I.funs;exact Heap.get?_none_of_le (Nat.le_trans I.ok.bsz I.ok.above)
theorem Inv.stkSub(I:Inv X pins σ H s):∀b∈frs X.stack,b∈X.env.locals::X.fs:=λb G=>by
 rcases I.ok.stk with e | ⟨e,J⟩
 .rw [e]at G;exact List.mem_cons_of_mem _ G
 .rw [e]at G;unfold frs at G;rw [List.filterMap_cons,J]at G;exact G
theorem Inv.stkFree(I:Inv X pins σ H s):∀b∈frs X.stack,H b=none:=λb hb=>by
 rcases List.mem_cons.mp (I.stkSub b hb)with e | hb
 .rw [e];exact I.free
 .obtain⟨_,o,G,_⟩:=I.ok.funs.mem hb;exact I.base.free b o G (I.ok.frf b hb) λz=>I.ok.exfs b z hb
theorem Inv.step{g':Array GenState}{t':Nat}{d':Drawn}{ch:List Addr}(I:Inv X pins σ H s)
 (hch:∀b∈ch,(73:)/\b≠X.env.locals/\(60:)/\∀p∈X.pn++pins,p.1≠b)
 (keep:∀b o,b≠X.env.locals->b∉X.fs->b∉ch->s.heap.get? b=some o->H b=none->h'.get? b=some o)
 (slot:∀b o,b≠X.env.locals->b∈X.fs->b∉ch->s.heap.get? b=some o->H b=none->∃sl,h'.get? b=some { o with slots:=sl }) (free:∀b o,b∉ch->s.heap.get? b=some o->H b=none->H' b=none)
 (there:∀b o,b∉ch->s.heap.get? b=some o->∃o',h'.get? b=some o')
 (tups:∀b xs,H b=some (.tup xs)->H' b=some (.tup xs)) (frzs:∀b o u,H b=some (.frz o u)->H' b=some (.frz o u)) (tbls:∀b ps,H b=some (.tbl ps)->∃more,H' b=some (.tbl (ps++more)))
 (ns:∀m,s.heap.Ns X.env.locals m->h'.Ns X.env.locals m) (hok:HOk X.prog X.w H' h') (hg:AllBare g'):
 Inv X pins σ H' { s with heap:=h',gens:=g',drawn:=d',toks:=t' }:=by
 have aa:∀b o,X.s₀.heap.get? b=some o->b≠X.env.locals:=λb o e=>Nat.ne_of_lt (Nat.lt_of_lt_of_le (69:) I.ok.above);have U:∀b o,X.s₀.heap.get? b=some o->b∉X.ex->b∉ch:=λb o e G L=>by
  rcases(hch b L).1 with z | z
  .exact G z
  .exact absurd (Nat.lt_of_lt_of_le (69:) z) (Nat.lt_irrefl _)
 have Y:∀x c,X.env.cells.lookup x=some c->∀v,s.heap.IsCell c v->h'.IsCell c v:=λx c e v ⟨o,Z,hd⟩=>by
  have J:c∉ch:=λz=>(hch c z).2.2.1 x c e rfl
  by_cases hc:c∈X.fs
  .obtain⟨sl,q⟩:=slot c o (I.cne x c e) hc J Z (I.freeC x c e);exact⟨_,q,hd⟩
  .exact⟨o,keep c o (I.cne x c e) hc J Z (I.freeC x c e),hd⟩
 refine⟨I.ok,I.os,hg,⟨λb o e n L G=>?_,λb o e n L G=>?_,λb o e n G=>?_,λb o e G=>?_,λb xs e=>tups b xs (I.base.tups b xs e),λb o xs e=>frzs b o xs (I.base.frzs b o xs e),λb ps e=>?_⟩,?_,λx c e=>?_,?_,λx c e=>?_,λp hp=>?_,hok,I.len⟩
 .exact keep b o (aa b o e) L (U b o e G) (I.base.keep b o e n L G) (I.base.free b o e n G)
 .obtain⟨sl,e1⟩:=I.base.slot b o e n L G;obtain⟨ab,e2⟩:=slot b _ (aa b o e) L (U b o e G) e1 (I.base.free b o e n G);exact⟨ab,e2⟩
 .obtain⟨o',e1⟩:=I.base.there b o e G;exact free b o' (U b o e G) e1 (I.base.free b o e n G)
 .obtain⟨o',e1⟩:=I.base.there b o e G;exact there b o' (U b o e G) e1
 .obtain⟨m1,e1⟩:=I.base.tbls b ps e;obtain⟨m2,e2⟩:=tbls b _ e1;exact⟨m1++m2,by rw [e2,Array.append_assoc]⟩
 .obtain⟨m,hn,hl⟩:=I.loc;refine⟨m,ns m hn,λi x v e1 e2 e3=>?_⟩;obtain⟨u,r,l⟩:=hl i x v e1 e2 e3;refine⟨u,r,?_⟩;rcases l with l | ⟨k,c,e,z⟩
  .exact .inl l
  .exact .inr ⟨k,c,e,Y x c e _ z⟩
 .obtain⟨v,z⟩:=I.cell x c e;exact⟨v,Y x c e v z⟩
 .obtain⟨m,⟨o,_,_,Z,_⟩,_⟩:=I.loc;exact free _ o (λz=>(hch _ z).2.1 rfl) Z I.free
 .obtain⟨v,o,Z,hd⟩:=I.cell x c e;exact free c o (λz=>(hch c z).2.2.1 x c e rfl) Z (I.freeC x c e)
 .obtain⟨e,n,ne,nf,d⟩:=I.pin p hp;have J:p.1∉ch:=λz=>(hch p.1 z).2.2.2 p hp rfl;exact⟨keep p.1 p.2 ne nf J e n,free p.1 p.2 J e n,ne,nf,d⟩
theorem Inv.un{t':Nat}(I:Inv X pins σ H s)(u:Un X.fs [] H H' s.heap h')(hok:HOk X.prog X.w H' h'):Inv X pins σ H' { s with heap:=h',toks:=t' }:=by
 obtain⟨m,⟨o,es,ep,L,r⟩,_⟩:=id I.loc;obtain⟨sl,Z⟩:=u.any L I.free (21:);exact I.step (g':=s.gens) (d':=s.drawn) (ch:=[]) (λ_ z=>nomatch z) (λb o _ J _ e n=>u.keep b o e n J (21:)) (λb o _ J _ e n=>u.slot b o e n J (21:)) (λb o _ e n=>u.free b o e n (21:)) (λb o _ e=>u.there b o e (21:)) u.tups u.frzs u.tbls (λm' hm=>by
  obtain⟨o',U,Y,G,r'⟩:=hm;rw [L]at G;cases G;exact⟨_,U,Y,Z,r'⟩) hok I.bare
theorem Inv.call{g':Array GenState}{t':Nat}{d':Drawn}{ch:List Addr}(I:Inv X pins σ H s)(u:Un (frs X.stack) ch H H' s.heap h')(hok:HOk X.prog X.w H' h')(hg:AllBare g')
 (hch:∀b∈ch,(73:)/\b≠X.env.locals/\(60:)/\∀p∈X.pn++pins,p.1≠b):
 Inv X pins σ H' { s with heap:=h',gens:=g',drawn:=d',toks:=t' }:=by
 obtain⟨m,⟨o,es,ep,U,r⟩,_⟩:=id I.loc;obtain⟨sl,L⟩:=u.any U I.free λz=>(hch _ z).2.1 rfl;exact I.step (ch:=ch) hch (λb o L hb G e n=>u.keep b o e n (λz=>(List.mem_cons.mp (I.stkSub b z)).elim L hb) G) (λb o _ _ G e n=>u.any e n G) (λb o G e n=>u.free b o e n G) (λb o G e=>u.there b o e G) u.tups u.frzs u.tbls (λm' hm=>by
  obtain⟨o',Y,Z,J,r'⟩:=hm;rw [U]at J;cases J;exact⟨_,Y,Z,L,r'⟩) hok hg
theorem Inv.turned{t':Nat}{it:Addr}(I:Inv X pins σ H s)(k:∀b o,b≠it->s.heap.get? b=some o->h'.get? b=some o)(hn:H it=none)(hL:it≠X.env.locals)
 (h1:it∈X.ex\/X.s₀.heap.objs.size<=it) (h2:∀x c,X.env.cells.lookup x=some c->c≠it) (h3:∀p∈X.pn++pins,p.1≠it):Inv X pins σ H { s with heap:=h',toks:=t' }:=by
 have J:∀b u,H b=some u->b≠it:=λb u e z=>by rw [z,hn]at e;cases e
 refine I.step (g':=s.gens) (d':=s.drawn) (ch:=[it]) (λb L=>?_) (λb o _ _ G e _=>k b o (λz=>G (by simp [z])) e) (λb o _ _ G e _=>⟨o.slots,k b o (λz=>G (by simp [z])) e⟩) (λ_ _ _ _ n=>n)
  (λb o G e=>⟨o,k b o (λz=>G (by simp [z])) e⟩) (λ_ _ e=>e) (λ_ _ _ e=>e) (λb ps e=>⟨#[],by rw [e];simp⟩) (λm U=>?_) (λb u e=>?_) I.bare
 .have e:b=it:=by simpa using L
  subst e;exact⟨h1,hL,h2,h3⟩
 .obtain⟨o,es,ep,Y,r⟩:=U;exact⟨o,es,ep,k _ o (Ne.symm hL) Y,r⟩
 .refine(I.hok b u e).stay (λc v G q=>k c v ?_ q) (λ_ q=>q) λ_ _ q=>q;rcases G with z | z
  .rw [z];exact J b u e
  .exact J c _ z
theorem Inv.tok(I:Inv X pins σ H s)(t:Nat):Inv X pins σ H { s with toks:=t }:=I.un (h':=s.heap) (t':=t) Un.refl I.hok
theorem Inv.kept{t':Nat}(I:Inv X pins σ H s)(k:∀b u,s.heap.get? b=some u->h'.get? b=some u):Inv X pins σ H { s with heap:=h',toks:=t' }:=I.un (Un.kept k) (I.hok.kept k)
theorem Inv.laid{a:Addr}{o:HO}{t':Nat}(I:Inv X pins σ H s)(k:∀b u,s.heap.get? b=some u->h'.get? b=some u)(hp:s.heap.objs.size<=a)(new:ObjOk X.prog X.w (upd H a o) h' a o):
 Inv X pins σ (upd H a o) { s with heap:=h',toks:=t' }:=I.un (Un.laid k hp (I.hok.fresh hp)) (I.hok.laid k hp new)
theorem Inv.write{x e:Addr}{o:HO}{t':Nat}(I:Inv X pins σ H s)(mu:Mut (H x))(he:e=x\/H e=some (.own x))(k:∀b u,b≠e->s.heap.get? b=some u->h'.get? b=some u)(heo:∃u,h'.get? e=some u)
 (new:ObjOk X.prog X.w (upd H x o) h' x o):Inv X pins σ (upd H x o) { s with heap:=h',toks:=t' }:=I.un (Un.write mu he k heo) (I.hok.write mu he k heo new)
theorem Inv.pins_of{pins':List (8:)}(I:Inv X pins σ H s)(h:∀p∈pins',s.heap.get? p.1=some p.2/\H p.1=none/\p.1≠X.env.locals/\p.1∉X.fs/\∀v,p.2.data≠.cell v):Inv X pins' σ H s:=
 ⟨I.ok,I.os,I.bare,I.base,I.loc,I.cell,I.free,I.freeC,λp hp=>(List.mem_append.mp hp).elim (λz=>I.pin p (List.mem_append_left _ z)) (h p),I.hok,I.len⟩
theorem WI{N:List Str}(hN:N.Nodup){i j:Nat}{x:Str}(a:N[i]?=some x)(b:N[j]?=some x):i=j:=by
 obtain⟨h1,e1⟩:=List.getElem?_eq_some_iff.mp a;obtain⟨h2,e2⟩:=List.getElem?_eq_some_iff.mp b;exact(List.getElem_inj hN).mp (e1.trans e2.symm)
theorem Ue{M:Model}{A:Around}{E:Value->Shared->Prop}{i:Nat}{x:Str}{v:V}{u:Value}{Q:Unit->Shared->Prop}(I:Inv X pins σ H s)(hN:X.N.Nodup)(hi:X.N[i]?=some x)(hx:Loc X.env.scope x)(r:RelV v u)
 (h:∀s',Inv X pins (σ.set i (some v)) H s'->(∃a,Heap.SameBut a s.heap s'.heap/\(a=X.env.locals\/X.env.cells.lookup x=some a))->Q () s') (hf:X.fn x=true\/X.env.scope.names.lookup x=some .local:=by first | exact .inl rfl | exact .inr rfl | assumption):wpAny M A (storeName X.env x u) Q E s:=by
 obtain⟨m,hn,hl⟩:=id I.loc;have ae:(X.env.scope.kind== .class||(X.env.scope.kind== .module&&X.env.locals !=X.env.globals))=false:=by rw [I.ok.kind];rfl
 have aa:i<σ.length:=by rw [I.len];exact(List.getElem?_eq_some_iff.mp hi).1
 have cne:=I.cne;have J:∀{a:Addr}{h':Heap},(∃o,s.heap.get? a=some o/\H a=none)->Heap.SameBut a s.heap h'->HOk X.prog X.w H h':=λ{a h'} ha G b ob e=>by
  obtain⟨_,_,Y⟩:=ha;refine(I.hok b ob e).stay (λc w' hc q=>(G.2 c ?_).trans q) (λ_ q=>q) λ_ _ q=>q;rintro rfl;rcases hc with rfl | hc
  .rw [Y]at e;cases e
  .rw [Y]at hc;cases hc
 rcases hx with hk | hk
 .refine wpAny_storeName_local hk hn (λh' ag G=>?_) ae;obtain⟨oL,_,_,ah,_⟩:=id hn;refine h _ ⟨I.ok,I.os,I.bare,⟨λb o e n L hx=>?_,λb o e n L hx=>?_,I.base.free,λb o e hx=>?_,I.base.tups,I.base.frzs,I.base.tbls⟩,⟨_,ag,λj y v' e1 e2 e3=>?_⟩,λy c e=>?_,I.free,I.freeC,λp hp=>?_,J ⟨oL,ah,I.free⟩ G,by simpa using I.len⟩ ⟨_,G,.inl rfl⟩
  .exact(G.2 b (Nat.ne_of_lt (Nat.lt_of_lt_of_le (69:) I.ok.above))).trans (I.base.keep b o e n L hx)
  .obtain⟨sl,e1⟩:=I.base.slot b o e n L hx;exact⟨sl,(G.2 b (Nat.ne_of_lt (Nat.lt_of_lt_of_le (69:) I.ok.above))).trans e1⟩
  .obtain⟨o',e1⟩:=I.base.there b o e hx;exact⟨o',(G.2 b (Nat.ne_of_lt (Nat.lt_of_lt_of_le (69:) I.ok.above))).trans e1⟩
  .by_cases U:j=i
   .subst U;rw [hi]at e1;cases e1;rw [List.getElem?_set_self aa]at e2;cases e2;exact⟨u,r,.inl ⟨hk,by simp⟩⟩
   .rw [List.getElem?_set_ne (Ne.symm U)]at e2;obtain⟨u',r',q⟩:=hl j y v' e1 e2 e3;refine⟨u',r',?_⟩;rcases q with⟨k,e⟩ | ⟨k,c,e,z⟩
    .refine .inl ⟨k,?_⟩;have:y≠x:=λe=>U (WI hN e1 (e ▸ hi));simp [this,e]
    .exact .inr ⟨k,c,e,z.sameBut G (cne y c e)⟩
  .obtain⟨w',z⟩:=I.cell y c e;exact⟨w',z.sameBut G (cne y c e)⟩
  .obtain⟨e,n,ne,nf,d⟩:=I.pin p hp;exact⟨(G.2 p.1 ne).trans e,n,ne,nf,d⟩
 .have Z:X.fn x=true:=by
   rcases hf with z | z
   .exact z
   .rw [z]at hk;cases hk
  obtain⟨c,hc⟩:=I.ok.has x (.inl hk);obtain⟨w',z⟩:=I.cell x c hc;refine wpAny_storeName_cell I.ok.kind hk hc z (λh' ab G=>?_);obtain⟨oc,ac,af⟩:=id z;refine h { s with heap:=h' } ⟨I.ok,I.os,I.bare,⟨λb o e n L hx=>?_,λb o e n L hx=>?_,I.base.free,λb o e hx=>?_,I.base.tups,I.base.frzs,I.base.tbls⟩,⟨m,hn.sameBut G (Ne.symm (cne x c hc)),λj y v' e1 e2 e3=>?_⟩,λy c' e=>?_,I.free,I.freeC,λp hp=>?_,J ⟨oc,ac,I.freeC x c hc⟩ G,by simpa using I.len⟩ ⟨c,G,.inr hc⟩
  .exact(G.2 b (Nat.ne_of_lt (Nat.lt_of_lt_of_le (69:) (I.ok.cab x c Z hc)))).trans (I.base.keep b o e n L hx)
  .obtain⟨sl,e1⟩:=I.base.slot b o e n L hx;exact⟨sl,(G.2 b (Nat.ne_of_lt (Nat.lt_of_lt_of_le (69:) (I.ok.cab x c Z hc)))).trans e1⟩
  .obtain⟨o',e1⟩:=I.base.there b o e hx;exact⟨o',(G.2 b (Nat.ne_of_lt (Nat.lt_of_lt_of_le (69:) (I.ok.cab x c Z hc)))).trans e1⟩
  .by_cases U:j=i
   .subst U;rw [hi]at e1;cases e1;rw [List.getElem?_set_self aa]at e2;cases e2;exact⟨u,r,.inr ⟨.inl hk,c,hc,ab⟩⟩
   .rw [List.getElem?_set_ne (Ne.symm U)]at e2;obtain⟨u',r',q⟩:=hl j y v' e1 e2 e3;refine⟨u',r',?_⟩;rcases q with q | ⟨k,c',e,z'⟩
    .exact .inl q
    .refine .inr ⟨k,c',e,z'.sameBut G ?_⟩;rintro rfl;exact U (WI hN e1 (I.ok.inj _ _ _ e hc ▸ hi))
  .by_cases ad:c'=c
   .subst ad;exact⟨_,ab⟩
   .obtain⟨w2,z2⟩:=I.cell y c' e;exact⟨w2,z2.sameBut G ad⟩
  .obtain⟨e,n,ne,nf,d⟩:=I.pin p hp;refine⟨(G.2 p.1 ?_).trans e,n,ne,nf,d⟩;intro q;rw [q,ac]at e;have q':oc=p.2:=Option.some.inj e;exact d w' (by rw [<-q'];exact af)
theorem Jo{M:Model}{A:Around}{E:Value->Shared->Prop}{i:Nat}{x:Str}{v:V}{u:Value}{Q:Unit->Shared->Prop}(I:Inv X pins σ H s)(hN:X.N.Nodup)(hi:X.N[i]?=some x)(hx:Loc X.env.scope x)(r:RelV v u)
 (h:∀s',Inv X pins (σ.set i (some v)) H s'->Q () s') (hf:X.fn x=true\/X.env.scope.names.lookup x=some .local:=by first | exact .inl rfl | exact .inr rfl | assumption):wpAny M A (storeName X.env x u) Q E s:=
 Ue I hN hi hx r (λs' G _=>h s' G) hf
theorem Inv.call'{s':Shared}{ch:List Addr}(I:Inv X pins σ H s)(ho:s'.os=s.os)(u:Un (frs X.stack) ch H H' s.heap s'.heap)(hok:HOk X.prog X.w H' s'.heap)(hg:AllBare s'.gens)
 (hch:∀b∈ch,(73:)/\b≠X.env.locals/\(60:)/\∀p∈X.pn++pins,p.1≠b):Inv X pins σ H' s':=by
 obtain⟨h',G,J,L,o'⟩:=s';have e:o'=s.os:=ho;subst e;exact I.call (g':=G) (t':=L) (d':=J) u hok hg hch
end
abbrev XK:=Value->Option Addr->Hp->Prop
abbrev St:=List (Option V)
abbrev VK:=V->Hp->Prop
abbrev TE:=St->Hp->VK->Prop
abbrev TT:=St->Hp->(Bool->Hp->Prop)->Prop
abbrev TA:=St->Hp->(List V->Hp->Prop)->Prop
structure Ends where
 nx:St->Hp->Prop
 rt:VK
 bk:St->Hp->Prop:=λ_ _=>False
 ct:St->Hp->Prop:=λ_ _=>False
abbrev TS:=Ends->St->Hp->Prop
def EP(X:Cx)(pins:List (8:))(σ:St)(Q:VK)(u:Value)(s':Shared):Prop:=∃v H',Inv X pins σ H' s'/\RelV v u/\Q v H'
def TP(X:Cx)(pins:List (8:))(σ:St)(Q:Bool->Hp->Prop)(b:Bool)(s':Shared):Prop:=∃H',Inv X pins σ H' s'/\Q b H'
def AP(X:Cx)(pins:List (8:))(σ:St)(Q:List V->Hp->Prop)(us:List Value)(s':Shared):Prop:=∃vs H',Inv X pins σ H' s'/\Vals vs us/\Q vs H'
def SP(X:Cx)(pins:List (8:))(D:Ends)(f:Flow)(s':Shared):Prop:=
 match f with
 | .next=>∃σ' H',Inv X pins σ' H' s'/\D.nx σ' H'
 | .brk=>∃σ' H',Inv X pins σ' H' s'/\D.bk σ' H'
 | .cont=>∃σ' H',Inv X pins σ' H' s'/\D.ct σ' H'
 | .ret u=>∃v σ' H',Inv X pins σ' H' s'/\RelV v u/\D.rt v H'
def PE(X:Cx)(e:Expr)(t:TE):Prop:=
 ∀(pins:List (8:))(s:Shared)(σ:St)(H:Hp)(Q:VK),Inv X pins σ H s->t σ H Q->wpAny (3:) X.A (eval e X.env) (74:) X.xe s
def PT(X:Cx)(e:Expr)(t:TT):Prop:=
 ∀(pins:List (8:))(s:Shared)(σ:St)(H:Hp)(Q:Bool->Hp->Prop),Inv X pins σ H s->t σ H Q->wpAny (3:) X.A (isTrue e X.env (eval e X.env)) (TP X pins σ Q) X.xe s
def PW(X:Cx)(e:Expr)(t:TT):Prop:=
 ∀(whole:Sem Value)(pins:List (8:))(s:Shared)(σ:St)(H:Hp)(Q:Bool->Hp->Prop),Inv X pins σ H s->t σ H Q->wpAny (3:) X.A (isTrue e X.env whole) (TP X pins σ Q) X.xe s
theorem PW.pt{X:Cx}{e:Expr}{t:TT}(h:PW X e t):PT X e t:=h _
def PA(X:Cx)(es:List Expr)(t:TA):Prop:=
 ∀(pos:Pos)(pins:List (8:))(s:Shared)(σ:St)(H:Hp)(Q:List V->Hp->Prop),Inv X pins σ H s->t σ H Q->wpAny (3:) X.A (spliced (39:)) (AP X pins σ Q) X.xe s
def PS(X:Cx)(st:Stmt)(t:TS):Prop:=
 ∀(pins:List (8:))(s:Shared)(σ:St)(H:Hp)(D:Ends),Inv X pins σ H s->t D σ H->wpAny (3:) X.A (exec st X.env) (SP X pins D) X.xe s
def PSs(X:Cx)(st:List Stmt)(t:TS):Prop:=
 ∀(pins:List (8:))(s:Shared)(σ:St)(H:Hp)(D:Ends),Inv X pins σ H s->t D σ H->wpAny (3:) X.A (execs st X.env) (SP X pins D) X.xe s
theorem thn{α:Type}{t:Sem α}{Q Q':α->Shared->Prop}{M:Model}{A:Around}{E:Value->Shared->Prop}{s:Shared}(h:wpAny M A t Q E s)(hQ:∀a s,Q a s->Q' a s):wpAny M A t Q' E s:=wpAny_mono h hQ λ_ _ x=>x
end L2
namespace L2
open PySem PySem.Spec PyProof.Rows
section
variable{X:Cx}
theorem bin{a b:Expr}{ta tb:TE}(ha:PE X a ta)(hb:PE X b tb){pins:List (8:)}{s:Shared}{σ:St}{H:Hp}{R:V->V->Hp->Prop}(I:Inv X pins σ H s)(h:ta σ H λx H1=>tb σ H1 λy H2=>R x y H2)
 {α:Type} {Q:α->Shared->Prop} {f:Value->Value->Sem α}
 (hf:∀v u s2 x y H2,Inv X pins σ H2 s2->RelV x v->RelV y u->R x y H2->wpAny (3:) X.A (f v u) Q X.xe s2):
 wpAny (3:) X.A (eval a X.env) (λv s₁=>wpAny (3:) X.A (eval b X.env) (λu s₂=>wpAny (3:) X.A (f v u) Q X.xe s₂) X.xe s₁) X.xe s:=by
 refine thn (70:) λv G ⟨x,H1,J,L,U⟩=>?_;refine thn (hb pins G σ H1 _ J U) λu s2 ⟨y,H2,Y,Z,q2⟩=>?_;exact hf v u s2 x y H2 Y L Z q2
def UE(i:Nat):TE:=λσ H Q=>∃v,σ[i]?=some (some v)/\Q v H
def tC(v:V):TE:=λ_ H Q=>Q v H
theorem Vk{i:Nat}{x:Str}{pos:Pos}(hN:X.N[i]?=some x)(hv:Vis X.env.scope x)(hd:(22:)=false:=by decide)(hcd:(x==("__classdict__":Str))=false:=by decide):PE X (.Name x pos) (UE i):=by
 intro pins s σ H Q I h;obtain⟨v,e,h⟩:=h;obtain⟨m,L,U⟩:=I.loc;obtain⟨u,r,l⟩:=U i x v hN e hv;have fin:EP X pins σ Q u s:=⟨v,H,I,r,h⟩;rcases l with⟨hk,Y⟩ | ⟨hk,c,J,G⟩
 .exact wpAny_Name (wpAny_loadName_local I.ok.kind hk L Y fin) hd
 .rcases hk with hk | hk
  .exact wpAny_Name (wpAny_loadName_cell I.ok.kind hk J G fin) hd
  .exact wpAny_Name (wpAny_loadName_free I.ok.kind hk J G fin hcd) hd
theorem Qf{i j pos}:PE X (.Constant (.int i) j pos) (tC (.int i)):=λ_ _ _ H _ I h=>wpAny_Constant_int ⟨.int i,H,I.tok _,(51:),h⟩
theorem ZZ{b j pos}:PE X (.Constant (.bool b) j pos) (tC (.bl b)):=λ_ _ _ H _ I h=>Constant_bool ⟨.bl b,H,I,rfl,h⟩
theorem Uk{j pos}:PE X (.Constant .none j pos) (tC .non):=λ_ _ _ H _ I h=>Constant_none ⟨.non,H,I,rfl,h⟩
theorem QJ{x j pos}:PE X (.Constant (.str x) j pos) (tC (.str x)):=λ_ _ _ H _ I h=>Calls.Constant_str ⟨.str x,H,I.tok _,(51:),h⟩
def Gl(X:Cx)(x:Str):Prop:=X.env.kindOf x=some .globalImplicit
theorem ZP{E:Value->Shared->Prop}{pins:List (8:)}{s:Shared}{σ:St}{H:Hp}{x:Str}{u:Value}{pos:Pos}{Q:Value->Shared->Prop}(I:Inv X pins σ H s)(hg:Gl X x)(hm:X.mg x=some u)(h:Q u s)
 (hd:(22:)=false:=by decide):wpAny (3:) X.A (eval (.Name x pos) X.env) Q E s:=
 Calls.Name_function_global I.ok.kind hg (Calls.loadGlobal_global (by rw [I.ok.glob];exact I.mod.glob.keeps I.bk) hm h) hd
theorem Y1{E:Value->Shared->Prop}{pins:List (8:)}{s:Shared}{σ:St}{H:Hp}{x:Str}{u:Value}{pos:Pos}{Q:Value->Shared->Prop}(I:Inv X pins σ H s)(hg:Gl X x)(hm:X.mg x=none)(hv:bootBuiltins x=some u)(h:Q u s)
 (hn:x≠"__name__":=by decide) (hd:(22:)=false:=by decide):wpAny (3:) X.A (eval (.Name x pos) X.env) Q E s:=by
 obtain⟨G,h1,h2⟩:=I.mod.blt;exact Calls.Name_function_global I.ok.kind hg (Calls.loadGlobal_builtin (by rw [I.ok.glob];exact I.mod.glob.keeps I.bk) hm (by rw [I.ok.blt];exact h1.keeps I.bk) ((h2 x hn).trans hv) h) hd
theorem Ye{x:Str}{v:V}{u:Value}{pos:Pos}(hg:Gl X x)(hm:X.mg x=some u)(r:RelV v u)(hd:(22:)=false:=by decide):PE X (.Name x pos) (tC v):=
 λ_ _ _ H _ I h=>ZP I hg hm ⟨v,H,I,r,h⟩ hd
theorem ZS{x:Str}{v:V}{u:Value}{pos:Pos}(hg:Gl X x)(hm:X.mg x=none)(hv:bootBuiltins x=some u)(r:RelV v u)(hn:x≠"__name__":=by decide)(hd:(22:)=false:=by decide):PE X (.Name x pos) (tC v):=
 λ_ _ _ H _ I h=>Y1 I hg hm hv ⟨v,H,I,r,h⟩ hn hd
variable{a b:Expr}{ta tb:TE}{pos:Pos}
def PC(X:Cx)(op:CmpOp)(a b:Expr)(t:TE):Prop:=
 ∀(pins:List (8:))(s:Shared)(σ:St)(H:Hp)(Q:VK),Inv X pins σ H s->t σ H Q->
  wpAny (3:) X.A (eval a X.env) (λv s₁=>wpAny (3:) X.A (eval b X.env) (λu s₂=>wpAny (3:) X.A (compareOp op v u) (74:) X.xe s₂) X.xe s₁) X.xe s
theorem Ly(b:Expr){op:CmpOp}(h:op≠.In)(h2:op≠.NotIn):behindInMarks op b=false:=by
 have e1:(op==CmpOp.In)=false:=by cases op<;>first | rfl | exact absurd rfl h
 have e2:(op==CmpOp.NotIn)=false:=by cases op<;>first | rfl | exact absurd rfl h2
 cases b<;>simp [behindInMarks,e1,e2]
def T3(ta:TE):TE:=λσ H Q=>ta σ H λx H1=>Q (.bl (decide (x=.non))) H1
theorem RelV.none_iff{x:V}{v:Value}(r:RelV x v):(v==Value.none)=decide (x=.non):=by
 cases x with
 | non=>cases r;rfl
 | bl _=>cases r;rfl
 | int _=>obtain⟨t,rfl⟩:=r;rfl
 | str _=>obtain⟨t,rfl⟩:=r;rfl
 | byt _=>obtain⟨t,rfl⟩:=r;rfl
 | flt _=>obtain⟨t,rfl⟩:=r;rfl
 | ref _=>cases r;rfl
 | ty _=>cases r;rfl
theorem ND{j pos'}(ha:PE X a ta):PC X .Is a (.Constant .none j pos') (T3 ta):=by
 intro pins s σ H Q I h;refine thn (70:) λv U ⟨x,H1,G,J,L⟩=>?_;exact Constant_none (is_none_gen ⟨.bl _,H1,G,by rw [J.none_iff];rfl,L⟩)
def tB(t:TE):TT:=λσ H Q=>t σ H λx H1=>∃c,x=.bl c/\Q c H1
theorem Xf{op:CmpOp}{t:TE}(h:PC X op a b t)(h1:behindInMarks op b=false:=by first | exact Ly _ (18:) (18:) | rfl):PT X (.Compare a [op] [b] pos) (tB t):=by
 intro pins s σ H Q I G;refine wpAny_isTrue_Compare1 (thn (h pins s σ H _ I G) λv Y h1=>thn h1 λu Z h2=>thn h2 λc s3 ⟨x,H1,J,L,U⟩=>?_) h1;obtain⟨d,rfl,q⟩:=U;cases L;exact wpAny_truthy_bool ⟨H1,J,q⟩
theorem QS{e:Expr}{t:TE}(h:PE X e t)(he:∀whole,isTrue e X.env whole=(do let v <-whole;standAt e.pos;holding [v] (truthy v)):=by intro _;rfl):PT X e (tB t):=by
 intro pins s σ H Q I G;refine isTrue_plain (thn (h pins s σ H _ I G) λv Y ⟨x,H1,J,L,U⟩=>?_) (he _);obtain⟨d,rfl,q⟩:=U;cases L;exact wpAny_truthy_bool ⟨H1,J,q⟩
variable{tA tB':TT}{rest:List Expr}
def AE(t u:TT):TT:=λσ H Q=>t σ H λc H1=>if c=true then u σ H1 Q else Q false H1
def tOr(t u:TT):TT:=λσ H Q=>t σ H λc H1=>if c=true then Q true H1 else u σ H1 Q
def AG(t:TT):TT:=λσ H Q=>t σ H λc H1=>Q (!c) H1
theorem pw_and1(ha:PT X a tA):PW X (.BoolOp .And [a] pos) tA:=by
 intro wh pins s σ H Q I h;refine isTrue_and (thn (ha pins s σ H Q I h) λc G e=>?_);cases c with
 | true=>exact isTrue_and_nil e
 | false=>exact e
theorem pw_or1(ha:PT X a tA):PW X (.BoolOp .Or [a] pos) tA:=by
 intro wh pins s σ H Q I h;refine isTrue_or (thn (ha pins s σ H Q I h) λc G e=>?_);cases c with
 | false=>exact isTrue_or_nil e
 | true=>exact e
theorem pw_and(ha:PT X a tA)(hb:PW X (.BoolOp .And (b::rest) pos) tB'):PW X (.BoolOp .And (a::b::rest) pos) (AE tA tB'):=by
 intro wh pins s σ H Q I h;refine isTrue_and (thn (70:) λc L ⟨H1,G,J⟩=>?_);cases c with
 | true=>exact hb wh pins L σ H1 Q G J
 | false=>exact⟨H1,G,J⟩
theorem pw_or(ha:PT X a tA)(hb:PW X (.BoolOp .Or (b::rest) pos) tB'):PW X (.BoolOp .Or (a::b::rest) pos) (tOr tA tB'):=by
 intro wh pins s σ H Q I h;refine isTrue_or (thn (70:) λc L ⟨H1,G,J⟩=>?_);cases c with
 | true=>exact⟨H1,G,J⟩
 | false=>exact hb wh pins L σ H1 Q G J
theorem Zy(ha:PT X a tA):PT X (.UnaryOp .Not a pos) (AG tA):=by
 intro pins s σ H Q I h;exact isTrue_not (ha pins s σ H (λc H1=>Q (!c) H1) I h)
def Tg(ta tb:TE):TE:=λσ H Q=>ta σ H λx H1=>∃c,x=.bl c/\if c=true then tb σ H1 Q else Q (.bl false) H1
def TU(ta tb:TE):TE:=λσ H Q=>ta σ H λx H1=>∃c,x=.bl c/\if c=true then Q (.bl true) H1 else tb σ H1 Q
def Tu(ta:TE):TE:=λσ H Q=>ta σ H λx H1=>∃c,x=.bl c/\Q (.bl (!c)) H1
theorem Xy{op}{t:TE}(h:PE X a t):PE X (.BoolOp op [a] pos) t:=λpins s σ H Q I G=>BoolOp_one (h pins s σ H Q I G)
theorem U6(ha:PE X a ta)(hb:PE X (.BoolOp .And (b::rest) pos) tb):PE X (.BoolOp .And (a::b::rest) pos) (Tg ta tb):=by
 intro pins s σ H Q I h;refine BoolOp_and (thn (70:) λv L ⟨x,H1,J,U,G⟩=>?_);obtain⟨c,rfl,G⟩:=G;cases U;refine wpAny_truthy_bool ?_;cases c with
 | true=>exact hb pins L σ H1 Q J G
 | false=>exact⟨.bl false,H1,J,rfl,G⟩
theorem S6(ha:PE X a ta)(hb:PE X (.BoolOp .Or (b::rest) pos) tb):PE X (.BoolOp .Or (a::b::rest) pos) (TU ta tb):=by
 intro pins s σ H Q I h;refine BoolOp_or (thn (70:) λv L ⟨x,H1,J,U,G⟩=>?_);obtain⟨c,rfl,G⟩:=G;cases U;refine wpAny_truthy_bool ?_;cases c with
 | false=>exact hb pins L σ H1 Q J G
 | true=>exact⟨.bl true,H1,J,rfl,G⟩
theorem LF(ha:PE X a ta):PE X (.UnaryOp .Not a pos) (Tu ta):=by
 intro pins s σ H Q I h;refine UnaryOp_ (thn (70:) λv U ⟨x,H1,J,L,G⟩=>?_);obtain⟨c,rfl,G⟩:=G;cases L;exact not_of (wpAny_truthy_bool ⟨.bl (!c),H1,J,rfl,G⟩)
def tIf(t:TT)(ta tb:TE):TE:=λσ H Q=>t σ H λc H1=>if c=true then ta σ H1 Q else tb σ H1 Q
theorem Jm{c:Expr}(hc:PT X c tA)(ha:PE X a ta)(hb:PE X b tb):PE X (.IfExp c a b pos) (tIf tA ta tb):=by
 intro pins s σ H Q I h;refine wpAny_IfExp (thn (hc pins s σ H _ I h) λd G ⟨H1,J,L⟩=>?_);cases d with
 | true=>exact ha pins G σ H1 Q J L
 | false=>exact hb pins G σ H1 Q J L
end
end L2
namespace L2
open PySem PySem.Spec PyProof.Rows
def SqL(K:Fg)(H:Hp)(a:Addr)(xs:List V):Prop:=
 Rd H a (.lst xs) \/
  ∃(o:Obj)(its:Array Value)(n:Nat),K.lookup a=some o/\o.cls=.type "list"/\ o.dict=none/\o.data=.seq its n/\its.size<=sizeLine/\Vals xs its.toList
def SqT(K:Fg)(H:Hp)(a:Addr)(xs:List V):Prop:=
 Rd H a (.tup xs) \/
  ∃(o:Obj)(its:Array Value)(n:Nat),K.lookup a=some o/\o.cls=.type "tuple"/\ o.data=.seq its n/\its.size<=sizeLine/\Vals xs its.toList
def Ao:Value->Option V
 | .none=>some .non
 | .bool b=>some (.bl b)
 | .int i _=>some (.int i)
 | .str x _=>some (.str x)
 | .bytes b _=>some (.byt b)
 | .float b _=>some (.flt b)
 | .ref a=>some (.ref a)
 | .type n=>some (.ty n)
 | _=>none
theorem RelV.abs{x:V}{u:Value}(r:RelV x u):Ao u=some x:=by
 cases x with
 | non=>cases r;rfl
 | bl _=>cases r;rfl
 | int _=>obtain⟨t,rfl⟩:=r;rfl
 | str _=>obtain⟨t,rfl⟩:=r;rfl
 | byt _=>obtain⟨t,rfl⟩:=r;rfl
 | flt _=>obtain⟨t,rfl⟩:=r;rfl
 | ref _=>cases r;rfl
 | ty _=>cases r;rfl
theorem RelV.inj{x y:V}{u:Value}(r:RelV x u)(q:RelV y u):x=y:=Option.some.inj (r.abs.symm.trans q.abs)
theorem Vals.inj:∀{xs ys:List V}{us:List Value},Vals xs us->Vals ys us->xs=ys
 | _,_,_,.nil,.nil=>rfl
 | _,_,_,.cons r t,.cons G J=>by rw [r.inj G,Vals.inj t J]
section
variable{X:Cx}{pins:List (8:)}{σ:St}{H:Hp}{s:Shared}{a:Addr}{xs ys:List V}
theorem SqL.of{K:Fg}(h:H a=some (.lst xs)):SqL K H a xs:=.inl (.inl h)
theorem SqT.of{K:Fg}(h:H a=some (.tup xs)):SqT K H a xs:=.inl (.inl h)
theorem Inv.list(I:Inv X pins σ H s)(h:SqL X.K H a xs):∃its:List Value,Vals xs its/\PlainL s.heap a its.toArray/\xs.length<=sizeLine:=by
 rcases h with h | ⟨o,its,n,G,J,L,U,Y,r⟩
 .obtain⟨z,its,n,r,e⟩:=h.ok I.hok;exact⟨its,r,⟨_,n,e,rfl,rfl,rfl⟩,z⟩
 .refine⟨its.toList,r,⟨o,n,I.kIn a o G,J,L,by simpa using U⟩,?_⟩;have e:=r.length;simp only [Array.length_toList]at e;lia
theorem Inv.tuple(I:Inv X pins σ H s)(h:SqT X.K H a xs):∃its:List Value,Vals xs its/\IsTup s.heap a its.toArray/\xs.length<=sizeLine:=by
 rcases h with h | ⟨o,its,n,G,J,L,U,r⟩
 .obtain⟨z,its,r,p⟩:=h.ok I.hok;exact⟨its,r,p,z⟩
 .refine⟨its.toList,r,⟨o,I.kIn a o G,J,n,by simpa using L⟩,?_⟩;have e:=r.length;simp only [Array.length_toList]at e;lia
theorem Inv.list_inj(I:Inv X pins σ H s)(h:SqL X.K H a xs)(h':SqL X.K H a ys):xs=ys:=by
 obtain⟨its,r,⟨o,n,e,_,_,d⟩,_⟩:=I.list h;obtain⟨G,U,⟨o',Z,J,_,_,L⟩,_⟩:=I.list h';rw [e]at J;cases J;rw [d]at L;injection L with Y _;have:its=G:=by simpa using congrArg Array.toList Y
 subst this;exact r.inj U
theorem Inv.tuple_inj(I:Inv X pins σ H s)(h:SqT X.K H a xs)(h':SqT X.K H a ys):xs=ys:=by
 obtain⟨its,r,⟨o,e,_,n,d⟩,_⟩:=I.tuple h;obtain⟨G,U,⟨o',J,_,Z,L⟩,_⟩:=I.tuple h';rw [e]at J;cases J;rw [d]at L;injection L with Y _;have:its=G:=by simpa using congrArg Array.toList Y
 subst this;exact r.inj U
end
abbrev Cx.wish(X:Cx)(E:Value->Shared->Prop):Cx:={ X with xe:=E }
abbrev Cx.nox(X:Cx):Cx:=X.wish λ_ _=>False
theorem Cx.Ok.wish{X:Cx}(ok:X.Ok)(E:Value->Shared->Prop):(X.wish E).Ok:=
 ⟨ok.mod,ok.kind,ok.glob,ok.blt,ok.above,ok.inj,ok.has,ok.cab,ok.hd,ok.frames,ok.stk,ok.exf,ok.bs,ok.bsz,ok.noex,ok.exfs,ok.funs,ok.frf⟩
theorem Cx.Ok.unwish{X:Cx}{E:Value->Shared->Prop}(ok:(X.wish E).Ok):X.Ok:=
 ⟨ok.mod,ok.kind,ok.glob,ok.blt,ok.above,ok.inj,ok.has,ok.cab,ok.hd,ok.frames,ok.stk,ok.exf,ok.bs,ok.bsz,ok.noex,ok.exfs,ok.funs,ok.frf⟩
section
variable{X:Cx}{pins:List (8:)}{σ:St}{H:Hp}{s:Shared}{E:Value->Shared->Prop}
theorem Inv.wish(I:Inv X pins σ H s)(E:Value->Shared->Prop):Inv (X.wish E) pins σ H s:=⟨I.ok.wish E,I.os,I.bare,I.base,I.loc,I.cell,I.free,I.freeC,I.pin,I.hok,I.len⟩
theorem Inv.unwish(I:Inv (X.wish E) pins σ H s):Inv X pins σ H s:=⟨I.ok.unwish,I.os,I.bare,I.base,I.loc,I.cell,I.free,I.freeC,I.pin,I.hok,I.len⟩
theorem SP.unwish{D:Ends}{f:Flow}{s':Shared}(h:SP (X.wish E) pins D f s'):SP X pins D f s':=by
 cases f with
 | next=>obtain⟨G,H',I,q⟩:=h;exact⟨G,H',I.unwish,q⟩
 | brk=>obtain⟨G,H',I,q⟩:=h;exact⟨G,H',I.unwish,q⟩
 | cont=>obtain⟨G,H',I,q⟩:=h;exact⟨G,H',I.unwish,q⟩
 | ret u=>obtain⟨v,G,H',I,r,q⟩:=h;exact⟨v,G,H',I.unwish,r,q⟩
theorem PSs.nox{st:List Stmt}{t:TS}(h:PSs X.nox st t):PSs X st t:=λpins s σ H D I G=>
 wpAny_mono (h pins s σ H D (I.wish _) G) (λ_ _ q=>q.unwish) λ_ _ z=>False.elim z
end
section
variable{X:Cx}{st:Stmt}{rest:List Stmt}{t u:TS}{e:Expr}{te:TE}{pos:Pos}
def SJ:TS:=λD σ H=>D.nx σ H
def AB(t u:TS):TS:=λD σ H=>t { D with nx:=u D } σ H
theorem Qr:PSs X [] SJ:=λ_ _ σ H _ I h=>wpAny_execs_nil ⟨σ,H,I,h⟩
theorem Qh(h1:PS X st t)(h2:PSs X rest u):PSs X (st::rest) (AB t u):=by
 intro pins s σ H D I h;refine wpAny_execs_cons (thn (h1 pins s σ H { D with nx:=u D } I h) λf G q=>?_);cases f with
 | next=>
  obtain⟨J,H',L,q⟩:=q;exact h2 pins G J H' D L q
 | ret v=>exact q
 | brk=>exact q
 | cont=>exact q
theorem Qi(h1:PS X st t):PSs X [st] t:=by
 intro pins s σ H D I h;refine wpAny_execs_cons (thn (h1 pins s σ H D I h) λf G q=>?_);cases f with
 | next=>exact wpAny_execs_nil q
 | ret v=>exact q
 | brk=>exact q
 | cont=>exact q
theorem Inv.quiet{pins:List (8:)}{σ:St}{H:Hp}{s:Shared}(I:Inv X pins σ H s):interactive X.env=false:=by simp [interactive,I.ok.kind]
def Ss(te:TE):TS:=λD σ H=>te σ H λ_ H1=>D.nx σ H1
theorem QL(he:PE X e te)(hs:swapsWith e none pos.line X.env=pure false:=by rfl):PS X (.Expr e pos) (Ss te):=by
 intro pins s σ H D I h;exact wpAny_Expr_any (thn (84:) λv L ⟨x,H1,G,U,J⟩=>⟨σ,H1,G,J⟩) I.quiet hs
def AJ(te:TE):TS:=λD σ H=>te σ H D.rt
theorem Ql(he:PE X e te):PS X (.Return (some e) pos) (AJ te):=by
 intro pins s σ H D I h;exact wpAny_Return_some (thn (84:) λv U ⟨x,H1,G,J,L⟩=>⟨x,σ,H1,G,J,L⟩)
def Su:TS:=λD _ H=>D.rt .non H
theorem Gw:PS X (.Return none pos) Su:=λ_ _ σ H _ I h=>wpAny_Return_none ⟨.non,σ,H,I,rfl,h⟩
def T2(c:TT)(t u:TS):TS:=λD σ H=>c σ H λb H1=>if b=true then t D σ H1 else u D σ H1
theorem QM{c:Expr}{a b:List Stmt}{tc:TT}(hc:PT X c tc)(ha:PSs X a t)(hb:PSs X b u):PS X (.If c a b pos) (T2 tc t u):=by
 intro pins s σ H D I h;refine wpAny_If (thn (hc pins s σ H _ I h) λd G ⟨H1,J,L⟩=>?_);cases d with
 | true=>exact ha pins G σ H1 D J L
 | false=>exact hb pins G σ H1 D J L
end
abbrev TG:=V->St->Hp->(St->Hp->Prop)->Prop
abbrev TGs:=List V->St->Hp->(St->Hp->Prop)->Prop
def PG(X:Cx)(target:Expr)(t:TG):Prop:=
 ∀(pins:List (8:))(s:Shared)(σ:St)(H:Hp)(v:V)(u:Value)(Q:St->Hp->Prop),Inv X pins σ H s->RelV v u->t v σ H Q->
  wpAny (3:) X.A (assign target X.env u) (λ_ s'=>∃σ' H',Inv X pins σ' H' s'/\Q σ' H') X.xe s
def PGs(X:Cx)(ts:List Expr)(t:TGs):Prop:=
 ∀(pins:List (8:))(s:Shared)(σ:St)(H:Hp)(vs:List V)(us:List Value)(Q:St->Hp->Prop),Inv X pins σ H s->Vals vs us->t vs σ H Q->
  wpAny (3:) X.A (assignInOrder ((assignEach ts X.env).map (·.2)) us) (λ_ s'=>∃σ' H',Inv X pins σ' H' s'/\Q σ' H') X.xe s
abbrev Rh:=V->V->V->Hp->(Hp->Prop)->Prop
def Sm(X:Cx)(t:Rh):Prop:=
 ∀(pins:List (8:))(s:Shared)(σ:St)(H:Hp)(o i v:V)(ov iv u:Value)(Q:Hp->Prop),Inv X pins σ H s->RelV o ov->RelV i iv->RelV v u->t o i v H Q->
  wpAny (3:) X.A (setItem ov iv u) (λ_ s'=>∃H',Inv X pins σ H' s'/\Q H') X.xe s
abbrev TIp:=V->V->Hp->VK->Prop
def PIp(X:Cx)(op:Operator)(t:TIp):Prop:=
 ∀(pins:List (8:))(s:Shared)(σ:St)(H:Hp)(x y:V)(v u:Value)(Q:VK),Inv X pins σ H s->RelV x v->RelV y u->t x y H Q->
  wpAny (3:) X.A (inplaceOp op v u) (74:) X.xe s
section
variable{X:Cx}{pos:Pos}
def Q3(i:Nat):TG:=λv σ H Q=>Q (σ.set i (some v)) H
theorem Qw{i:Nat}{x:Str}(hN:X.N.Nodup)(hi:X.N[i]?=some x)(hx:Loc X.env.scope x)(hf:X.fn x=true\/X.env.scope.names.lookup x=some .local:=by first | exact .inl rfl | exact .inr rfl | assumption):PG X (.Name x pos) (Q3 i):=by
 intro pins s σ H v u Q I r h;exact wpAny_assign_Name (Jo I hN hi hx r (λs' G=>⟨_,H,G,h⟩) hf)
def N7:TGs:=λvs σ H Q=>vs=[]/\Q σ H
def JP(t:TG)(u:TGs):TGs:=λvs σ H Q=>∃v r,vs=v::r/\t v σ H λσ' H'=>u r σ' H' Q
theorem Zh:PGs X [] N7:=by
 intro pins s σ H vs G Q I r h;obtain⟨e,h⟩:=h;subst e;cases r;exact assignInOrder_nil ⟨σ,H,I,h⟩
theorem QA{e:Expr}{es:List Expr}{t:TG}{u:TGs}(h1:PG X e t)(h2:PGs X es u)
 (hs:(assignEach (e::es) X.env).map (·.2)=assign e X.env::(assignEach es X.env).map (·.2):=by rfl):PGs X (e::es) (JP t u):=by
 intro pins s σ H vs Z Q I r h;obtain⟨v,vr,e1,h⟩:=h;subst e1;cases r with
 | cons r G=>
  rw [hs];refine assignInOrder_cons (thn (h1 pins s σ H _ _ _ I r h) λ_ J ⟨L,H1,U,Y⟩=>?_);exact h2 pins J L H1 _ _ Q U G Y
def PJ(K:Fg)(n:Nat)(t:TGs):TG:=λv σ H Q=>∃a xs,v=.ref a/\SqT K H a xs/\xs.length=n/\t xs σ H Q
theorem ZA{es:List Expr}{k:Nat}{t:TGs}{n:Nat}(hc:X.calm=true)(h:PGs X es t)
 (hn:(assignEach es X.env).length=n:=by rfl) (hst:(assignEach es X.env).findIdx? (·.1)=none:=by rfl):PG X (.Tuple es k pos) (PJ X.K n t):=by
 intro pins s σ H v u Q I r G;obtain⟨a,xs,e1,L,U,G⟩:=G;subst e1;cases r;obtain⟨its,J,Y,hz⟩:=I.tuple L;refine assign_Tuple_tuple (I.ok.hd hc) Y (by simp [hn,<-U,J.length]) hst λh' Z=>?_;have I1:Inv X pins σ H { s with heap:=h' }:=I.kept (t':=s.toks) λb o e=>Z b o (Nat.ne_of_lt (69:)) e;exact h pins _ σ H xs _ Q I1 (by simpa using J) G
def An(to ti:TE)(t:Rh):TG:=λv σ H Q=>to σ H λo H1=>ti σ H1 λi H2=>t o i v H2 λH3=>Q σ H3
theorem Pw{o i:Expr}{to ti:TE}{t:Rh}(ho:PE X o to)(hi:PE X i ti)(hs:Sm X t)
 (ha:∀v,assign (.Subscript o i pos) X.env v=(do
  let ov <-holding [v] (eval o X.env)
  let iv <-holding [v,ov] (eval i X.env)
  standAt pos
  holding [v,ov,iv] (setItem ov iv v)
  release [v,ov,iv] []):=by intro _;rfl):PG X (.Subscript o i pos) (An to ti t):=by
 intro pins s σ H v u Q I r h;rw [ha];refine wpAny_bind (wpAny_holding (thn (ho pins s σ H _ I h) λov G ⟨x,H1,J,L,U⟩=>?_));refine wpAny_bind (wpAny_holding (thn (hi pins G σ H1 _ J U) λiv Y ⟨y,H2,Z,r2,q2⟩=>?_));refine wpAny_bind (wpAny_standAt (wpAny_bind (wpAny_holding (thn (hs pins Y σ H2 x y v ov iv u _ Z L r2 r q2) λ_ s3 ⟨H3,I3,q3⟩=>?_))));exact wpAny_release ⟨σ,H3,I3,q3⟩
def NR(te:TE)(g:TG):TS:=λD σ H=>te σ H λx H1=>g x σ H1 D.nx
theorem VB{tg e:Expr}{te:TE}{g:TG}(he:PE X e te)(hg:PG X tg g)(hs:swapsWithSole [tg] e pos.line X.env=pure false:=by rfl)(hw:swappedStores [tg] e X.env=pure none:=by rfl)
 (h1:(assignEach [tg] X.env).map (·.2)=[assign tg X.env]:=by rfl):PS X (.Assign [tg] e pos) (NR te g):=by
 intro pins s σ H D I h;refine wpAny_Assign_stores (thn (84:) λv G ⟨x,H1,J,L,U⟩=>?_) hs hw;rw [h1];exact thn (hg pins G σ H1 x v _ J L U) λ_ Y q=>q
theorem Qz{i:Nat}{x:Str}{e:Expr}{te:TE}{pos':Pos}(hN:X.N.Nodup)(hi:X.N[i]?=some x)(hx:Loc X.env.scope x)(he:PE X e te)(hs:swapsWith e (some (.Name x pos')) pos.line X.env=pure false:=by rfl)(hf:X.fn x=true\/X.env.scope.names.lookup x=some .local:=by first | exact .inl rfl | exact .inr rfl | assumption):
 PS X (.Assign [.Name x pos'] e pos) (NR te (Q3 i)):=by
 intro pins s σ H D I h;refine wpAny_Assign_Name (thn (84:) λv Y ⟨y,H1,G,J,L⟩=>?_) hs;exact Jo G hN hi hx J (λZ U=>⟨_,H1,U,L⟩) hf
def Ab(i:Nat)(te:TE)(ti:TIp):TS:=λD σ H=>∃x,σ[i]?=some (some x)/\te σ H λy H1=>ti x y H1 λz H2=>D.nx (σ.set i (some z)) H2
theorem Rb{i:Nat}{x:Str}{e:Expr}{te:TE}{op:Operator}{ti:TIp}{pos':Pos}(hN:X.N.Nodup)(hi:X.N[i]?=some x)(hx:Loc X.env.scope x)(he:PE X e te)(ho:PIp X op ti)(hf:X.fn x=true\/X.env.scope.names.lookup x=some .local:=by first | exact .inl rfl | exact .inr rfl | assumption):
 PS X (.AugAssign (.Name x pos') op e pos) (Ab i te ti):=by
 intro pins s σ H D I h;obtain⟨v,e1,h⟩:=h;obtain⟨m,L,U⟩:=I.loc;have J:Vis X.env.scope x:=by rcases hx with k | k;exact .inl k;exact .inr (.inl k)
 obtain⟨u,r,l⟩:=U i x v hi e1 J;refine wpAny_AugAssign_Name ?_;have go:wpAny (3:) X.A (eval e X.env) (λw Y=>wpAny (3:) X.A (inplaceOp op u w) (λr Z=>wpAny (3:) X.A (storeName X.env x r) (λ_=>SP X pins D .next) X.xe Z) X.xe Y) X.xe s:=by
  refine thn (84:) λw s1 ⟨y,H1,I1,r1,q1⟩=>?_;refine thn (ho pins s1 σ H1 v y u w _ I1 r r1 q1) λz s2 ⟨zv,H2,I2,r2,q2⟩=>?_;exact Jo I2 hN hi hx r2 (λs3 I3=>⟨_,H2,I3,q2⟩) hf
 rcases l with⟨hk,hm⟩ | ⟨hk,c,hc,G⟩
 .exact wpAny_loadName_local I.ok.kind hk L hm go
 .rcases hk with hk | hk
  .exact wpAny_loadName_cell I.ok.kind hk hc G go
  .rcases hx with k | k
   .have:X.env.scope.names.lookup x=some .free:=hk;rw [k]at this;cases this
   .have:X.env.scope.names.lookup x=some .free:=hk;rw [k]at this;cases this
def ipI(f:Int->Int->Int):TIp:=λx y H Q=>∃i j,x=.int i/\y=.int j/\Q (.int (f i j)) H
theorem P6:PIp X .Add (ipI λi j=>i+j):=by
 intro pins s σ H x y v u Q I G J h;obtain⟨i,j,e1,e2,q⟩:=h;subst e1;subst e2;obtain⟨t,rfl⟩:=G;obtain⟨L,rfl⟩:=J;exact iadd_int ⟨.int _,H,I.tok _,(51:),q⟩
end
section
variable{X:Cx}{pos:Pos}
def MU(c:TT)(tb:TS):TS:=λD σ H=>∃W:Nat->St->Hp->Prop,(∃m,W m σ H)/\∀m σ H,W m σ H->
 c σ H λb H1=>if b=true then ∃N:St->Hp->Prop,(∀σ' H',N σ' H'->∃m',m'<m/\W m' σ' H')/\tb { D with nx:=N,ct:=N,bk:=D.nx } σ H1 else D.nx σ H1
theorem U5{c:Expr}{body:List Stmt}{tc:TT}{tb:TS}(hp:PassesOwn (3:) X.A X.env X.xe)(hc:PT X c tc)(hb:PSs X body tb):PS X (.While c body [] pos) (MU tc tb):=by
 intro pins s σ H D I h;obtain⟨W,⟨m0,w0⟩,Z⟩:=h;refine wpAny_While (codeAny_whileLoop (λn s'=>∃aa H',Inv X pins aa H' s'/\W n aa H') ?_ m0 ⟨σ,H,I,w0⟩);rintro n s1 ⟨L,H1,I1,w1⟩;refine wpAny_passesOwn hp (thn (hc pins s1 L H1 _ I1 (Z n L H1 w1)) λb s2 ⟨H2,I2,U⟩=>?_);cases b with
 | true=>
  obtain⟨N,hN,U⟩:=U;rw [if_pos rfl];refine wpAny_passesOwn hp (thn (hb pins s2 L H2 _ I2 U) λf s3 Y=>?_);cases f with
  | next=>
   obtain⟨G,J,I3,n3⟩:=Y;obtain⟨m',hm,w3⟩:=hN G J n3;exact⟨m',hm,G,J,I3,w3⟩
  | cont=>
   obtain⟨G,J,I3,n3⟩:=Y;obtain⟨m',hm,w3⟩:=hN G J n3;exact⟨m',hm,G,J,I3,w3⟩
  | brk=>exact Y
  | ret v=>exact Y
 | false=>
  rw [if_neg Bool.false_ne_true];exact wpAny_execs_nil ⟨L,H2,I2,U⟩
end
structure It where
 go:Nat->Hp->Prop
 yld:Nat->Hp->V->Hp->Prop
 stop:Nat->Hp->Prop
def UF(X:Cx)(pins:List (8:))(H:Hp)(b:Addr):Prop:=
 H b=none/\b≠X.env.locals/\b∉X.fs/\(73:)/\(60:)/\∀p∈X.pn++pins,p.1≠b
theorem Inv.fpOk{X:Cx}{pins:List (8:)}{σ:St}{H H':Hp}{s:Shared}{b:Addr}(I:Inv X pins σ H s)(hb:s.heap.objs.size<=b)(hn:H' b=none):UF X pins H' b:=by
 refine⟨hn,Nat.ne_of_gt (Nat.lt_of_lt_of_le I.lt hb),I.nofs hb,.inr (Nat.le_trans I.sz hb),λx c e z=>?_,λp hp z=>?_⟩
 .obtain⟨v,q⟩:=I.cell x c e;exact absurd (Nat.lt_of_lt_of_le q.lt (by rw [z];exact hb)) (Nat.lt_irrefl _)
 .exact absurd (Nat.lt_of_lt_of_le (Heap.lt_size (I.pin p hp).1) (by rw [z];exact hb)) (Nat.lt_irrefl _)
structure Turn(P:Program)(w:World)(K:Fg)(tg:Expr)(J:It)(fp:List Addr)(it:Addr)(tn:Nat->Heap->Prop):Prop where
 mem:it∈fp
 obj:∀i h,tn i h->∀b∈fp,∃o,h.get? b=some o/\∀v,o.data≠.cell v
 keep:∀i h h',tn i h->(∀b∈fp,∀o,h.get? b=some o->h'.get? b=some o)->tn i h'
 item:∀(X:Cx),X.prog=P->X.w=w->X.K=K->X.calm=true->∀(i:Nat)(pins:List (8:))(s:Shared)(σ:St)(H:Hp)(E:Value->Shared->Prop),Inv X pins σ H s->(∀b∈fp,UF X pins H b)->tn i s.heap->J.go i H->
  wpAny (model P w) X.A (pyNext (.ref it)) (λr s1=>∃u,r=some u/\
   wpAny (model P w) X.A (letOwnedTupleGo tg (.ref it) u) (λ_ s2=>∃x H',Inv X pins σ H' s2/\RelV x u/\J.yld i H x H'/\tn (i+1) s2.heap/\∀b∈fp,H' b=none) E s1) E s
 done:∀(X:Cx),X.prog=P->X.w=w->X.K=K->X.calm=true->∀(i:Nat)(pins:List (8:))(s:Shared)(σ:St)(H:Hp)(E:Value->Shared->Prop),Inv X pins σ H s->(∀b∈fp,UF X pins H b)->tn i s.heap->J.stop i H->
  wpAny (model P w) X.A (pyNext (.ref it)) (λr s1=>r=none/\Inv X pins σ H s1) E s
 self:∀(A:Around)(i:Nat)(s:Shared)(Q:Value->Shared->Prop)(E:Value->Shared->Prop),tn i s.heap->Q (.ref it) s->wpAny (model P w) A (pyIter (.ref it)) Q E s
abbrev TI:=St->Hp->(It->Hp->Prop)->Prop
def PIE(X:Cx)(pins:List (8:))(σ:St)(tg:Expr)(R:It->Hp->Prop)(itv:Value)(s2:Shared):Prop:=
 ∃(it:Addr)(fp:List Addr)(tn:Nat->Heap->Prop)(J:It)(H':Hp),itv=.ref it/\Inv X pins σ H' s2/\Turn X.prog X.w X.K tg J fp it tn/\tn 0 s2.heap/\(∀b∈fp,UF X pins H' b)/\R J H'
def PI(X:Cx)(tg iter:Expr)(wi:TI):Prop:=
 ∀(pins:List (8:))(s:Shared)(σ:St)(H:Hp)(R:It->Hp->Prop),Inv X pins σ H s->wi σ H R->
  wpAny (3:) X.A (eval iter X.env) (λv s1=>wpAny (3:) X.A (pyIter v) (PIE X pins σ tg R) X.xe s1) X.xe s
theorem Mu{M:Model}{A:Around}{E:Value->Shared->Prop}{s:Shared}{tg:Expr}{it:Addr}{u:Value}{o:Obj}{n:String}{vs:Array Value}{Q:Unit->Shared->Prop}(ho:s.heap.get? it=some o)(hc:o.cls=.type n)(hd:o.data=.fields vs)
 (hn:["enumerate","zip","dict_itemiterator","dict_reverseitemiterator","odict_iterator","itertools.zip_longest","itertools.pairwise"].contains n=false) (hQ:Q () s):wpAny M A (letOwnedTupleGo tg (.ref it) u) Q E s:=by
 unfold letOwnedTupleGo;cases tg<;>first
  | exact wpAny_pure hQ
  | (cases u<;>first
   | exact wpAny_pure hQ
   | (refine wpAny_bind (wpAny_load ho ?_)
      rw [hc,hd];show wpAny M A (if(["enumerate","zip","dict_itemiterator","dict_reverseitemiterator","odict_iterator","itertools.zip_longest","itertools.pairwise"].contains n&&vs[0]? ==some (rawInt _))=true then _ else _) Q E s;rw [if_neg (by intro h;rw [hn,Bool.false_and]at h;cases h)];exact wpAny_pure hQ))
def Itl(K:Fg)(a:Addr):It:=
 ⟨λi H=>∃xs x,SqL K H a xs/\xs[i]?=some x,λi H x H'=>H'=H/\∀xs,SqL K H a xs->xs[i]?=some x,λi H=>∃xs,SqL K H a xs/\xs.length<=i⟩
def Itt(K:Fg)(a:Addr):It:=
 ⟨λi H=>∃xs x,SqT K H a xs/\xs[i]?=some x,λi H x H'=>H'=H/\∀xs,SqT K H a xs->xs[i]?=some x,λi H=>∃xs,SqT K H a xs/\xs.length<=i⟩
def Itr(lo:Int)(n:Nat):It:=⟨λi _=>i<n,λi H x H'=>H'=H/\x=.int (lo+i),λi _=>n<=i⟩
theorem Lh{P:Program}{w:World}{K:Fg}{tg:Expr}(a it:Addr):Turn P w K tg (Itl K a) [it] it (λi h=>h.IsListIter it a i) where
 mem:=by simp
 obj:=λi h st b G=>by
  have e:b=it:=by simpa using G
  subst e;obtain⟨o,e,c,d⟩:=st;exact⟨o,e,λv z=>by rw [d]at z;cases z⟩
 keep:=λi h h' st k=>st.at λo e=>k it (21:) o e
 item:=by
  intro X Y Z hK hc i pins s σ H E I J st hg;subst Y Z hK;obtain⟨xs,x,L,hx⟩:=hg;obtain⟨its,rv,p,hz⟩:=I.list L;obtain⟨u,hu,ru⟩:=rv.get hx;obtain⟨f0,f1,f2,f3,f4,f5⟩:=J it (21:);refine wpAny_pyNext_list_item st p.isList (x:=u) (by simpa using hu) λh' U sb=>?_;have I1:Inv X pins σ H { s with heap:=h' }:=I.turned (t':=s.toks) (λb o G e=>(sb.2 b G).trans e) f0 f1 f3 f4 f5;obtain⟨o,e,c,d⟩:=id U;exact⟨u,rfl,Mu (s:={ s with heap:=h' }) e c d (18:) ⟨x,H,I1,ru,⟨rfl,λys hy=>by rw [I.list_inj hy L];exact hx⟩,U,λb G=>(J b G).1⟩⟩
 done:=by
  intro X Y Z hK hc i pins s σ H E I J st hg;subst Y Z hK;obtain⟨xs,L,hx⟩:=hg;obtain⟨its,rv,p,hz⟩:=I.list L;obtain⟨f0,f1,f2,f3,f4,f5⟩:=J it (21:);have hl:=rv.length;exact wpAny_pyNext_list_end (I.ok.hd hc) st p.isList (by simp;lia) λh' eb=>⟨rfl,I.turned (t':=s.toks) (λb o G e=>eb b o G e) f0 f1 f3 f4 f5⟩
 self:=λ_ _ _ _ _ st h=>wpAny_pyIter_listiter st h
theorem Vh{P:Program}{w:World}{K:Fg}{tg:Expr}(a it:Addr):Turn P w K tg (Itt K a) [it] it (λi h=>h.IsTupleIter it a i) where
 mem:=by simp
 obj:=λi h st b G=>by
  have e:b=it:=by simpa using G
  subst e;obtain⟨o,e,c,d⟩:=st;exact⟨o,e,λv z=>by rw [d]at z;cases z⟩
 keep:=λi h h' st k=>st.at λo e=>k it (21:) o e
 item:=by
  intro X Y Z hK hc i pins s σ H E I J st hg;subst Y Z hK;obtain⟨xs,x,L,hx⟩:=hg;obtain⟨its,rv,p,hz⟩:=I.tuple L;obtain⟨u,hu,ru⟩:=rv.get hx;obtain⟨f0,f1,f2,f3,f4,f5⟩:=J it (21:);refine wpAny_pyNext_tuple_item st (show s.heap.IsTuple a its.toArray from p) (x:=u) (by simpa using hu) λh' U sb=>?_;have I1:Inv X pins σ H { s with heap:=h' }:=I.turned (t':=s.toks) (λb o G e=>(sb.2 b G).trans e) f0 f1 f3 f4 f5;obtain⟨o,e,c,d⟩:=id U;exact⟨u,rfl,Mu (s:={ s with heap:=h' }) e c d (18:) ⟨x,H,I1,ru,⟨rfl,λys hy=>by rw [I.tuple_inj hy L];exact hx⟩,U,λb G=>(J b G).1⟩⟩
 done:=by
  intro X Y Z hK hc i pins s σ H E I J st hg;subst Y Z hK;obtain⟨xs,L,hx⟩:=hg;obtain⟨its,rv,p,hz⟩:=I.tuple L;obtain⟨f0,f1,f2,f3,f4,f5⟩:=J it (21:);have hl:=rv.length;exact wpAny_pyNext_tuple_end (I.ok.hd hc) st (show s.heap.IsTuple a its.toArray from p) (by simp;lia) λh' eb=>⟨rfl,I.turned (t':=s.toks) (λb o G e=>eb b o G e) f0 f1 f3 f4 f5⟩
 self:=λ_ _ _ _ _ st h=>wpAny_pyIter_tupleiter st h
theorem VA{P:Program}{w:World}{K:Fg}{tg:Expr}(it:Addr)(lo:Int)(n:Nat):Turn P w K tg (Itr lo n) [it] it (λi h=>IsRangeIter h it (lo+(i:Nat)*1) ((n:Int)-(i:Nat)) 1) where
 mem:=by simp
 obj:=λi h st b G=>by
  have e:b=it:=by simpa using G
  subst e;exact⟨_,st,λv z=>by
   have z':Data.fields _=Data.cell v:=z;cases z'⟩
 keep:=λi h h' st k=>k it (21:) _ st
 item:=by
  intro X U Y Z hc i pins s σ H E I J st hg;subst U Y Z;obtain⟨f0,f1,f2,f3,f4,f5⟩:=J it (21:);have W:=Walks.range (prog:=X.prog) (w:=X.w) (I.ok.hd hc) it lo 1 n;refine W.item i s _ _ hg st λv h' tk hv L kk=>?_;obtain⟨t,rfl⟩:=hv;have I1:Inv X pins σ H { s with heap:=h',toks:=tk }:=I.turned (λb o G e=>kk b o (by simpa using G) e) f0 f1 f3 f4 f5;refine⟨_,rfl,Mu (s:={ s with heap:=h',toks:=tk }) (n:="range_iterator") L rfl rfl (18:) ⟨.int (lo+i),H,I1,⟨t,?_⟩,⟨rfl,rfl⟩,L,λb G=>(J b G).1⟩⟩;rw [Int.mul_one]
 done:=by
  intro X U Y Z hc i pins s σ H E I J st hg;subst U Y Z;obtain⟨f0,f1,f2,f3,f4,f5⟩:=J it (21:);exact wpAny_pyNext_range_end (I.ok.hd hc) st (by have:n<=i:=hg;lia) λh' eb=>⟨rfl,I.turned (t':=s.toks) (λb o G e=>eb b o G e) f0 f1 f3 f4 f5⟩
 self:=λ_ _ _ _ _ st h=>wpAny_pyIter_rangeiter st h
end L2
namespace L2
open PySem PySem.Spec PyProof.Rows
section
variable{X:Cx}{tg:Expr}
def Po(K:Fg)(tl:TE):TI:=λσ H R=>tl σ H λx H1=>∃a,x=.ref a/\(∃xs,SqL K H1 a xs)/\R (Itl K a) H1
def T8(K:Fg)(tl:TE):TI:=λσ H R=>tl σ H λx H1=>∃a,x=.ref a/\(∃xs,SqT K H1 a xs)/\R (Itt K a) H1
theorem QG{l:Expr}{tl:TE}(hl:PE X l tl):PI X tg l (Po X.K tl):=by
 intro pins s σ H R I h;refine thn (hl pins s σ H _ I h) λv G ⟨x,H1,J,L,U⟩=>?_;obtain⟨a,e,⟨xs,Y⟩,q⟩:=U;subst e;cases L;obtain⟨its,rv,p,hz⟩:=J.list Y;refine wpAny_pyIter_list p.isList ?_;refine⟨G.heap.objs.size,[G.heap.objs.size],_,_,H1,rfl,J.kept (t':=G.toks) λb o e=>Heap.get?_push_of_some _ e,Lh a _,⟨_,Heap.get?_push_size _ rfl,rfl,rfl⟩,λb Z=>?_,q⟩;have e:b=G.heap.objs.size:=by simpa using Z
 subst e;exact J.fpOk (7:) (J.hok.fresh (7:))
theorem Ub{l:Expr}{tl:TE}(hl:PE X l tl):PI X tg l (T8 X.K tl):=by
 intro pins s σ H R I h;refine thn (hl pins s σ H _ I h) λv G ⟨x,H1,J,L,U⟩=>?_;obtain⟨a,e,⟨xs,Y⟩,q⟩:=U;subst e;cases L;obtain⟨its,rv,p,hz⟩:=J.tuple Y;refine wpAny_pyIter_tuple (show G.heap.IsTuple a its.toArray from p) ?_;refine⟨G.heap.objs.size,[G.heap.objs.size],_,_,H1,rfl,J.kept (t':=G.toks) λb o e=>Heap.get?_push_of_some _ e,Vh a _,⟨_,Heap.get?_push_size _ rfl,rfl,rfl⟩,λb Z=>?_,q⟩;have e:b=G.heap.objs.size:=by simpa using Z
 subst e;exact J.fpOk (7:) (J.hok.fresh (7:))
theorem ME{pins:List (8:)}{σ:St}{H:Hp}{s:Shared}{R:It->Hp->Prop}{E:Value->Shared->Prop}{lo hi:Int}{t u v:Tok}{tk:Nat}(I:Inv X pins σ H s)(h1:-(2^62)<=lo)(h2:lo<2^62)(h3:-(2^62)<=hi)(h4:hi<2^62)
 (q:R (Itr lo (hi-lo).toNat) H):wpAny (3:) X.A (pyIter (.ref s.heap.objs.size)) (PIE X pins σ tg R) E { s with heap:=s.heap.push { cls:=.type "range",data:=.fields #[.int lo t,.int hi u,.int 1 v] },toks:=tk }:=by
 refine wpAny_pyIter_range (IsRange.new ..) (small_one h1 h2 h3 h4) ?_;have G:Inv X pins σ H { s with heap:=s.heap.push { cls:=.type "range",data:=.fields #[.int lo t,.int hi u,.int 1 v] },toks:=tk }:=I.kept λb o e=>Heap.get?_push_of_some _ e;refine⟨(80:).objs.size,[(80:).objs.size],_,_,H,rfl,G.kept (t':=tk) λb o e=>Heap.get?_push_of_some _ e,VA _ lo (hi-lo).toNat,?_,λb J=>?_,q⟩
 .have e1:lo+((0:Nat):Int)*1=lo:=by simp
  have e2:(((hi-lo).toNat:Nat):Int)-((0:Nat):Int)=Builtin.Range.rangeSize lo hi 1:=by rw [rangeSize_one];split<;>lia
  show IsRangeIter _ _ (lo+((0:Nat):Int)*1) ((((hi-lo).toNat:Nat):Int)-((0:Nat):Int)) 1;rw [e1,e2];exact Heap.get?_push_size _ rfl
 .have e:b=(80:).objs.size:=by simpa using J
  subst e;exact G.fpOk (7:) (G.hok.fresh (7:))
def Sj(ta:TA):TI:=λσ H R=>ta σ H λvs H1=>∃j:Int,vs=[.int j]/\-(2^62)<=j/\j<2^62/\R (Itr 0 j.toNat) H1
theorem ZM{a:Expr}{ta:TA}{p pos:Pos}(hg:Gl X "range")(hm:X.mg "range"=none)(ha:PA X [a] ta)(hs:starEach [a] X.env=[(false,eval a X.env)]:=by rfl):PI X tg (.Call (.Name "range" p) [a] [] pos) (Sj ta):=by
 intro pins s σ H R I h;refine Call_ (Y1 I hg hm boot_range (PyProof.Rows.callWith_type1 (thn (71:) λZ s1 ⟨vs,H1,J,L,G⟩=>?_) hs rfl));obtain⟨j,e,G,U,q⟩:=G;subst e;cases L with
 | cons r Y=>
  cases Y;obtain⟨t,rfl⟩:=r;exact call_range_1 (ME J (6:) (6:) G U (by simpa using q))
def TX(wi:TI)(g:TG)(tb:TS):TS:=λD σ H=>wi σ H λJ H1=>∃W:Nat->Nat->St->Hp->Prop,(∃m,W 0 m σ H1)/\∀i m σ H,W i m σ H->
 (J.stop i H/\D.nx σ H)\/(J.go i H/\∃N:St->Hp->Prop,(40:)/\∀x H',J.yld i H x H'->g x σ H' λσ2 H2=>tb { D with nx:=N,ct:=N,bk:=D.nx } σ2 H2)
def Jr(fp:List Addr)(h:Heap):List (8:):=fp.filterMap λb=>(h.get? b).map λo=>(b,o)
theorem ZT{fp:List Addr}{h:Heap}{b:Addr}{o:Obj}(hb:b∈fp)(e:h.get? b=some o):(b,o)∈Jr fp h:=List.mem_filterMap.mpr ⟨b,hb,by rw [e];rfl⟩
theorem Ln{fp:List Addr}{h:Heap}{p:Addr×Obj}(hp:p∈Jr fp h):p.1∈fp/\h.get? p.1=some p.2:=by
 obtain⟨b,G,e⟩:=List.mem_filterMap.mp hp;cases q:h.get? b with
 | none=>rw [q]at e;cases e
 | some o=>
  rw [q]at e;have J:(b,o)=p:=Option.some.inj e;subst J;exact⟨G,q⟩
theorem Inv.pinned{pins:List (8:)}{σ:St}{H:Hp}{s:Shared}{fp:List Addr}(I:Inv X pins σ H s)(hf:∀b∈fp,UF X pins H b)(ho:∀b∈fp,∃o,s.heap.get? b=some o/\∀v,o.data≠.cell v):Inv X (pins++Jr fp s.heap) σ H s:=
 I.pins_of λp hp=>(List.mem_append.mp hp).elim (λz=>I.pin p (List.mem_append_right _ z)) λz=>by
  obtain⟨G,e⟩:=Ln z;obtain⟨L,f1,f2,_⟩:=hf p.1 G;obtain⟨o,J,d⟩:=ho p.1 G;rw [e]at J;cases J;exact⟨e,L,f1,f2,d⟩
theorem Inv.unpinned{pins pl:List (8:)}{σ:St}{H:Hp}{s:Shared}(I:Inv X (pins++pl) σ H s):Inv X pins σ H s:=I.pins_of λp hp=>I.pin p (List.mem_append_right _ (List.mem_append_left _ hp))
theorem QX{iter:Expr}{body:List Stmt}{wi:TI}{g:TG}{tb:TS}{pos:Pos}(hp:PassesOwn (3:) X.A X.env X.xe)(hc:X.calm=true)(hi:PI X tg iter wi)(hg:PG X tg g)(hb:PSs X body tb)
 (hs:∀x,foldedSetIterable iter X.env x=pure x:=by intro _;rfl):PS X (.For tg iter body [] pos) (TX wi g tb):=by
 intro pins s σ H D I h;refine wpAny_For (thn (hi pins s σ H _ I h) λv s1 h1=>thn h1 λal s2 h2=>?_) hs;obtain⟨it,fp,tn,J,H2,e,I2,T,ah,f2,W,⟨m0,w0⟩,ag⟩:=h2;subst e;have Z:∀{H':Hp},(∀b∈fp,H' b=none)->∀b∈fp,UF X pins H' b:=λhn b hb=>⟨hn b hb,(f2 b hb).2⟩;refine codeAny_forLoop_any (λn s'=>∃i ab H',Inv X pins ab H' s'/\tn i s'.heap/\(∀b∈fp,H' b=none)/\W i n ab H') ?_ m0 ⟨0,σ,H2,I2,ah,λb hb=>(f2 b hb).1,w0⟩;rintro n s3 ⟨i,ac,H3,I3,ae,af,w3⟩;rcases ag i n ac H3 w3 with⟨stop,qn⟩ | ⟨go,N,hN,step⟩
 .refine wpAny_passesOwn hp (thn (T.done X rfl rfl rfl hc i pins s3 ac H3 X.xe I3 (Z af) ae stop) λr s4 ⟨hr,I4⟩=>?_);subst hr;exact wpAny_execs_nil ⟨ac,H3,I4,qn⟩
 .refine wpAny_passesOwn hp (thn (T.item X rfl rfl rfl hc i pins s3 ac H3 X.xe I3 (Z af) ae go) λr s4 ⟨u,hr,h4⟩=>?_);subst hr;refine wpAny_passesOwn hp (thn h4 λ_ s5 ⟨x,H5,I5,r5,y5,ad,ai⟩=>?_);have aj:=I5.pinned (Z ai) (T.obj _ _ ad);refine wpAny_passesOwn hp (thn (hg _ s5 ac H5 x u _ aj r5 (step x H5 y5)) λ_ s6 ⟨ak,H6,I6,q6⟩=>?_);refine wpAny_passesOwn hp (thn (hb _ s6 ak H6 _ I6 q6) λf s7 Y=>?_);have aa:∀{G:St}{L:Hp},Inv X (pins++Jr fp s5.heap) G L s7->N G L->∃m,m<n/\∃i ab H',Inv X pins ab H' s7/\tn i s7.heap/\(∀b∈fp,H' b=none)/\W i m ab H':=λ{G L} U n7=>by
   obtain⟨m',hm,w7⟩:=hN G L n7;refine⟨m',hm,i+1,G,L,U.unpinned,T.keep _ _ _ ad λb hb o e=>(U.pin (b,o) (List.mem_append_right _ (List.mem_append_right _ (ZT hb e)))).1,λb hb=>?_,w7⟩;obtain⟨o,e,d⟩:=T.obj _ _ ad b hb;exact(U.pin (b,o) (List.mem_append_right _ (List.mem_append_right _ (ZT hb e)))).2.1
  cases f with
  | next=>obtain⟨G,L,U,n7⟩:=Y;exact aa U n7
  | cont=>obtain⟨G,L,U,n7⟩:=Y;exact aa U n7
  | brk=>obtain⟨G,L,U,Y⟩:=Y;exact⟨G,L,U.unpinned,Y⟩
  | ret v=>obtain⟨x7,G,L,U,r7,Y⟩:=Y;exact⟨x7,G,L,U.unpinned,r7,Y⟩
end
theorem ZJ{K:Fg}{a:Addr}{xs:List V}{g:TG}{tb:TS}{D:Ends}{σ:St}{H:Hp}(Pv:Nat->St->Hp->Prop)(h0:Pv 0 σ H)(hl:∀i σ H,i<=xs.length->Pv i σ H->SqL K H a xs)
 (hs:∀i x σ H,xs[i]?=some x->Pv i σ H->g x σ H λσ2 H2=>tb { D with nx:=Pv (i+1),ct:=Pv (i+1),bk:=D.nx } σ2 H2) (hd:∀σ H,Pv xs.length σ H->D.nx σ H):
 ∃W:Nat->Nat->St->Hp->Prop,(∃m,W 0 m σ H)/\∀i m σ H,W i m σ H->
  ((Itl K a).stop i H/\D.nx σ H)\/((Itl K a).go i H/\∃N:St->Hp->Prop,(40:)/\∀x H',(Itl K a).yld i H x H'->g x σ H' λσ2 H2=>tb { D with nx:=N,ct:=N,bk:=D.nx } σ2 H2):=by
 refine⟨λi m σ H=>m=xs.length-i/\i<=xs.length/\Pv i σ H,⟨xs.length,by simp,Nat.zero_le _,h0⟩,?_⟩;rintro i m σ H ⟨rfl,hi,p⟩;have q:=hl i σ H hi p
 by_cases G:i<xs.length
 .refine .inr ⟨⟨xs,xs[i],q,by simp [G]⟩,Pv (i+1),λσ' H' J=>⟨xs.length-(i+1),by lia,rfl,G,J⟩,λx H' y=>?_⟩;obtain⟨e,y⟩:=y;subst e;exact hs i x σ _ (y xs q) p
 .have e:i=xs.length:=by lia
  subst e;exact .inl ⟨⟨xs,q,Nat.le_refl _⟩,hd σ H p⟩
theorem XH{K:Fg}{a:Addr}{xs:List V}{g:TG}{tb:TS}{D:Ends}{σ:St}{H:Hp}(Pv:Nat->St->Hp->Prop)(h0:Pv 0 σ H)(hl:∀i σ H,i<=xs.length->Pv i σ H->SqT K H a xs)
 (hs:∀i x σ H,xs[i]?=some x->Pv i σ H->g x σ H λσ2 H2=>tb { D with nx:=Pv (i+1),ct:=Pv (i+1),bk:=D.nx } σ2 H2) (hd:∀σ H,Pv xs.length σ H->D.nx σ H):
 ∃W:Nat->Nat->St->Hp->Prop,(∃m,W 0 m σ H)/\∀i m σ H,W i m σ H->
  ((Itt K a).stop i H/\D.nx σ H)\/((Itt K a).go i H/\∃N:St->Hp->Prop,(40:)/\∀x H',(Itt K a).yld i H x H'->g x σ H' λσ2 H2=>tb { D with nx:=N,ct:=N,bk:=D.nx } σ2 H2):=by
 refine⟨λi m σ H=>m=xs.length-i/\i<=xs.length/\Pv i σ H,⟨xs.length,by simp,Nat.zero_le _,h0⟩,?_⟩;rintro i m σ H ⟨rfl,hi,p⟩;have q:=hl i σ H hi p
 by_cases G:i<xs.length
 .refine .inr ⟨⟨xs,xs[i],q,by simp [G]⟩,Pv (i+1),λσ' H' J=>⟨xs.length-(i+1),by lia,rfl,G,J⟩,λx H' y=>?_⟩;obtain⟨e,y⟩:=y;subst e;exact hs i x σ _ (y xs q) p
 .have e:i=xs.length:=by lia
  subst e;exact .inl ⟨⟨xs,q,Nat.le_refl _⟩,hd σ H p⟩
theorem J8{lo:Int}{n:Nat}{g:TG}{tb:TS}{D:Ends}{σ:St}{H:Hp}(Pv:Nat->St->Hp->Prop)(h0:Pv 0 σ H)
 (hs:∀i σ H,i<n->Pv i σ H->g (.int (lo+i)) σ H λσ2 H2=>tb { D with nx:=Pv (i+1),ct:=Pv (i+1),bk:=D.nx } σ2 H2) (hd:∀σ H,Pv n σ H->D.nx σ H):
 ∃W:Nat->Nat->St->Hp->Prop,(∃m,W 0 m σ H)/\∀i m σ H,W i m σ H->
  ((Itr lo n).stop i H/\D.nx σ H)\/((Itr lo n).go i H/\∃N:St->Hp->Prop,(40:)/\∀x H',(Itr lo n).yld i H x H'->g x σ H' λσ2 H2=>tb { D with nx:=N,ct:=N,bk:=D.nx } σ2 H2):=by
 refine⟨λi m σ H=>m=n-i/\i<=n/\Pv i σ H,⟨n,by simp,Nat.zero_le _,h0⟩,?_⟩;rintro i m σ H ⟨rfl,hi,p⟩
 by_cases G:i<n
 .refine .inr ⟨G,Pv (i+1),λσ' H' J=>⟨n-(i+1),by lia,rfl,G,J⟩,λx H' y=>?_⟩;obtain⟨e,y⟩:=y;subst e y;exact hs i σ _ G p
 .have e:i=n:=by lia
  subst e;exact .inl ⟨Nat.le_refl _,hd σ H p⟩
end L2
namespace L2
open PySem PySem.Spec PyProof.Rows
abbrev R2:=V->V->Hp->VK->Prop
def OpR(X:Cx)(f:Value->Value->Sem Value)(r:R2):Prop:=
 ∀(pins:List (8:))(s:Shared)(σ:St)(H:Hp)(x y:V)(v u:Value)(Q:VK),Inv X pins σ H s->RelV x v->RelV y u->r x y H Q->
  wpAny (3:) X.A (f v u) (74:) X.xe s
def QR(X:Cx)(f:Value)(r:List V->Hp->VK->Prop):Prop:=
 ∀(pins:List (8:))(s:Shared)(σ:St)(H:Hp)(xs:List V)(us:List Value)(Q:VK),Inv X pins σ H s->Vals xs us->r xs H Q->
  wpAny (3:) X.A (call f us) (74:) X.xe s
def tOp(r:R2)(ta tb:TE):TE:=λσ H Q=>ta σ H λx H1=>tb σ H1 λy H2=>r x y H2 Q
def rI(C:Int->Int->Prop)(g:Int->Int->V):R2:=λx y H Q=>∃i j,x=.int i/\y=.int j/\C i j/\Q (g i j) H
def rI0(g:Int->Int->V):R2:=λx y H Q=>∃i j,x=.int i/\y=.int j/\Q (g i j) H
section
variable{X:Cx}{a b c:Expr}{ta tb tc:TE}{pos:Pos}
theorem Rl(ha:PE X a ta)(hb:PE X b tb){pins:List (8:)}{s:Shared}{σ:St}{H:Hp}{R:V->V->Hp->Prop}(I:Inv X pins σ H s)
 (h:ta σ H λx H1=>tb σ H1 λy H2=>R x y H2) {Q:Value->Shared->Prop} {f:Value->Value->Sem Value}
 (hf:∀v u s2 x y H2,Inv X pins σ H2 s2->RelV x v->RelV y u->R x y H2->wpAny (3:) X.A (f v u) Q X.xe s2):
 wpAny (3:) X.A (eval a X.env) (λv s₁=>wpAny (3:) X.A (eval b X.env) (λu s₂=>wpAny (3:) X.A (f v u) Q X.xe s₂) X.xe s₁) X.xe s:=by
 refine thn (70:) λv G ⟨x,H1,J,L,U⟩=>?_;refine thn (hb pins G σ H1 _ J U) λu s2 ⟨y,H2,Y,Z,q2⟩=>?_;exact hf v u s2 x y H2 Y L Z q2
theorem Qy{op:Operator}{r:R2}(ho:OpR X (binaryOp op) r)(ha:PE X a ta)(hb:PE X b tb):PE X (.BinOp a op b pos) (tOp r ta tb):=by
 intro pins s σ H Q I h;exact wpAny_BinOp (Rl ha hb I h λv u G x y H2 J L U q=>ho pins G σ H2 x y v u Q J L U q)
theorem opI{f:Value->Value->Sem Value}{C:Int->Int->Prop}{g:Int->Int->Int}
 (rule:∀(i j:Int)(t u:Tok)(s:Shared)(Q:Value->Shared->Prop)(E:Value->Shared->Prop),C i j->Q (.int (g i j) s.toks) { s with toks:=s.toks+1 }->wpAny (3:) X.A (f (.int i t) (.int j u)) Q E s):
 OpR X f (rI C λi j=>.int (g i j)):=by
 intro pins s σ H x y v u Q I G J h;obtain⟨i,j,rfl,rfl,L,q⟩:=h;obtain⟨t,rfl⟩:=G;obtain⟨U,rfl⟩:=J;exact rule i j t U s _ _ L ⟨.int (g i j),H,I.tok _,(51:),q⟩
theorem SY{f:Value->Value->Sem Value}{g:Int->Int->Int}
 (rule:∀(i j:Int)(t u:Tok)(s:Shared)(Q:Value->Shared->Prop)(E:Value->Shared->Prop),Q (.int (g i j) s.toks) { s with toks:=s.toks+1 }->wpAny (3:) X.A (f (.int i t) (.int j u)) Q E s):
 OpR X f (rI0 λi j=>.int (g i j)):=by
 intro pins s σ H x y v u Q I G J h;obtain⟨i,j,rfl,rfl,q⟩:=h;obtain⟨t,rfl⟩:=G;obtain⟨L,rfl⟩:=J;exact rule i j t L s _ _ ⟨.int (g i j),H,I.tok _,(51:),q⟩
theorem N2{f:Value->Value->Sem Value}{g:Int->Int->Bool}
 (rule:∀(i j:Int)(t u:Tok)(s:Shared)(Q:Value->Shared->Prop)(E:Value->Shared->Prop),Q (.bool (g i j)) s->wpAny (3:) X.A (f (.int i t) (.int j u)) Q E s):
 OpR X f (rI0 λi j=>.bl (g i j)):=by
 intro pins s σ H x y v u Q I G J h;obtain⟨i,j,rfl,rfl,q⟩:=h;obtain⟨t,rfl⟩:=G;obtain⟨L,rfl⟩:=J;exact rule i j t L s _ _ ⟨.bl (g i j),H,I,rfl,q⟩
def S1(i j:Int):Prop:=0<j/\j<1073741824
def TV(i j:Int):Prop:=0<=j/\j<=1000000/\i.natAbs<2^64
def CMul(i j:Int):Prop:=(-(2^64)<i/\i<2^64)\/(-(2^64)<j/\j<2^64)
theorem CMul.ok{i j:Int}(h:CMul i j):IntMulOk i j:=by
 rcases h with⟨h1,h2⟩ | ⟨h1,h2⟩
 .exact .of_left (intBits_le_64 h1 h2)
 .exact .of_right (intBits_le_64 h1 h2)
theorem Za:OpR X (binaryOp .Add) (rI0 λi j=>.int (i+j)):=SY λ_ _ _ _ _ _ _ q=>add_int q
theorem W3:OpR X (binaryOp .Sub) (rI0 λi j=>.int (i-j)):=SY λ_ _ _ _ _ _ _ q=>sub_int q
theorem Yx:OpR X (binaryOp .Mult) (rI CMul λi j=>.int (i*j)):=opI λ_ _ _ _ _ _ _ G q=>mul_int q G.ok
theorem XD:OpR X (binaryOp .FloorDiv) (rI S1 λi j=>.int (i/j)):=opI λi j _ _ _ _ _ G q=>by
 have h1:(0:Int)<j:=G.1;have h2:j<1073741824:=G.2;exact floordiv_int (6:) (by rw [Int.fdiv_eq_ediv_of_nonneg i (6:)];exact q) (.inl (PyProof.noPylong_small (6:)))
theorem ZC:OpR X (binaryOp .Mod) (rI (λ_ j=>0<j) λi j=>.int (i%j)):=opI λi j _ _ _ _ _ G q=>by
 have h1:(0:Int)<j:=G;exact mod_int' (6:) (by rw [Int.fmod_eq_emod_of_nonneg i (6:)];exact q)
theorem LS:OpR X (binaryOp .Pow) (rI TV λi j=>.int (i^j.toNat)):=opI λ_ _ _ _ _ _ _ G q=>pow_int_small G.1 G.2.1 G.2.2 q
end
def Tk:V->V->Bool
 | .non,.non=>true | .non,.int _=>true | .int _,.non=>true | .non,.bl _=>true | .bl _,.non=>true | .non,.str _=>true | .str _,.non=>true
 | .int _,.int _=>true | .bl _,.bl _=>true | .str _,.str _=>true | .byt _,.byt _=>true
 | .int _,.str _=>true | .str _,.int _=>true | .bl _,.str _=>true | .str _,.bl _=>true
 | _,_=>false
def rEq:R2:=λx y H Q=>Tk x y=true/\Q (.bl (decide (x=y))) H
def rNe:R2:=λx y H Q=>Tk x y=true/\Q (.bl (!decide (x=y))) H
theorem Gn{i j:Int}:decide (V.int i=V.int j)=(i==j):=by
 rw [Bool.eq_iff_iff];simp
theorem Mc{i j:Bool}:decide (V.bl i=V.bl j)=(i==j):=by
 rw [Bool.eq_iff_iff];simp
theorem V9{i j:Str}:decide (V.str i=V.str j)=(i==j):=by
 rw [Bool.eq_iff_iff];simp
theorem Gr{i j:Array UInt8}:decide (V.byt i=V.byt j)=(i.toList==j.toList):=by
 rw [Bool.eq_iff_iff];cases i;cases j;simp
section
variable{X:Cx}{a b c:Expr}{ta tb tc:TE}{pos:Pos}
theorem Qm{pins:List (8:)}{σ:St}{H:Hp}{s:Shared}{Q:VK}{k k':Bool}(I:Inv X pins σ H s)(q:Q (.bl k) H)(e:k=k'):EP X pins σ Q (.bool k') s:=by
 subst e;exact⟨.bl k,H,I,rfl,q⟩
theorem Yo:OpR X (compareOp .Eq) rEq:=by
 intro pins s σ H x y v u Q I U G h;obtain⟨L,q⟩:=h;cases x with
 | non=>
  cases U;cases y with
  | non=>cases G;exact PySem.EqNone.eq_none_none (65:)
  | bl j=>cases G;exact PySem.EqNone.eq_none_bool (65:)
  | int j=>obtain⟨J,rfl⟩:=G;exact PySem.EqNone.eq_none_int (65:)
  | str j=>obtain⟨J,rfl⟩:=G;exact PySem.EqNone.eq_none_str (65:)
  | _=>exact absurd (show false=true from L) Bool.false_ne_true
 | bl i=>
  cases U;cases y with
  | non=>cases G;exact PySem.EqNone.eq_bool_none (65:)
  | bl j=>cases G;exact eq_bool (Qm I q Mc)
  | str j=>obtain⟨J,rfl⟩:=G;exact PySem.EqMixed.eq_bool_str (65:)
  | _=>exact absurd (show false=true from L) Bool.false_ne_true
 | int i=>
  obtain⟨t,rfl⟩:=U;cases y with
  | non=>cases G;exact PySem.EqNone.eq_int_none (65:)
  | int j=>obtain⟨J,rfl⟩:=G;exact eq_int (Qm I q Gn)
  | str j=>obtain⟨J,rfl⟩:=G;exact PySem.EqMixed.eq_int_str (65:)
  | _=>exact absurd (show false=true from L) Bool.false_ne_true
 | str i=>
  obtain⟨t,rfl⟩:=U;cases y with
  | non=>cases G;exact PySem.EqNone.eq_str_none (65:)
  | bl j=>cases G;exact PySem.EqMixed.eq_str_bool (65:)
  | int j=>obtain⟨J,rfl⟩:=G;exact PySem.EqMixed.eq_str_int (65:)
  | str j=>obtain⟨J,rfl⟩:=G;exact eq_str (Qm I q V9)
  | _=>exact absurd (show false=true from L) Bool.false_ne_true
 | byt i=>
  obtain⟨t,rfl⟩:=U;cases y with
  | byt j=>obtain⟨J,rfl⟩:=G;exact PySem.W.eq_bytes (Qm I q Gr)
  | _=>exact absurd (show false=true from L) Bool.false_ne_true
 | _=>cases y<;>exact absurd (show false=true from L) Bool.false_ne_true
theorem WP:OpR X (compareOp .NotEq) rNe:=by
 intro pins s σ H x y v u Q I U G h;obtain⟨L,q⟩:=h;cases x with
 | non=>
  cases U;cases y with
  | non=>cases G;exact PySem.EqNone.ne_none_none (65:)
  | bl j=>cases G;exact PySem.EqNone.ne_none_bool (65:)
  | int j=>obtain⟨J,rfl⟩:=G;exact PySem.EqNone.ne_none_int (65:)
  | str j=>obtain⟨J,rfl⟩:=G;exact PySem.EqNone.ne_none_str (65:)
  | _=>exact absurd (show false=true from L) Bool.false_ne_true
 | bl i=>
  cases U;cases y with
  | non=>cases G;exact PySem.EqNone.ne_bool_none (65:)
  | bl j=>cases G;exact ne_bool (Qm I q (congrArg not Mc))
  | str j=>obtain⟨J,rfl⟩:=G;exact PySem.EqMixed.ne_bool_str (65:)
  | _=>exact absurd (show false=true from L) Bool.false_ne_true
 | int i=>
  obtain⟨t,rfl⟩:=U;cases y with
  | non=>cases G;exact PySem.EqNone.ne_int_none (65:)
  | int j=>obtain⟨J,rfl⟩:=G;exact ne_int (Qm I q (congrArg not Gn))
  | str j=>obtain⟨J,rfl⟩:=G;exact PySem.EqMixed.ne_int_str (65:)
  | _=>exact absurd (show false=true from L) Bool.false_ne_true
 | str i=>
  obtain⟨t,rfl⟩:=U;cases y with
  | non=>cases G;exact PySem.EqNone.ne_str_none (65:)
  | bl j=>cases G;exact PySem.EqMixed.ne_str_bool (65:)
  | int j=>obtain⟨J,rfl⟩:=G;exact PySem.EqMixed.ne_str_int (65:)
  | str j=>obtain⟨J,rfl⟩:=G;exact ne_str (Qm I q (congrArg not V9))
  | _=>exact absurd (show false=true from L) Bool.false_ne_true
 | byt i=>
  obtain⟨t,rfl⟩:=U;cases y with
  | byt j=>obtain⟨J,rfl⟩:=G;exact PySem.W.ne_bytes (Qm I q (congrArg not Gr))
  | _=>exact absurd (show false=true from L) Bool.false_ne_true
 | _=>cases y<;>exact absurd (show false=true from L) Bool.false_ne_true
theorem WM:OpR X (compareOp .Lt) (rI0 λi j=>.bl (decide (i<j))):=N2 λ_ _ _ _ _ _ _ q=>lt_int q
theorem SC:OpR X (compareOp .LtE) (rI0 λi j=>.bl (decide (i<=j))):=N2 λ_ _ _ _ _ _ _ q=>le_int q
theorem NC:OpR X (compareOp .Gt) (rI0 λi j=>.bl (decide (j<i))):=N2 λ_ _ _ _ _ _ _ q=>gt_int q
theorem Tx:OpR X (compareOp .GtE) (rI0 λi j=>.bl (decide (j<=i))):=N2 λ_ _ _ _ _ _ _ q=>ge_int q
theorem GH:OpR X (compareOp .Lt) (λx y H Q=>∃i j,x=.str i/\y=.str j/\Q (.bl (decide (i.cps.toList<j.cps.toList))) H):=by
 intro pins s σ H x y v u Q I G J h;obtain⟨i,j,rfl,rfl,q⟩:=h;obtain⟨t,rfl⟩:=G;obtain⟨L,rfl⟩:=J;exact lt_str (Qm I q rfl)
theorem RV:OpR X (compareOp .Is) (λx y H Q=>y=.non/\Q (.bl (decide (x=.non))) H):=by
 intro pins s σ H x y v u Q I G J h;obtain⟨rfl,q⟩:=h;cases J;refine is_none_gen (Qm I q ?_);cases x<;>first
  | (cases G;rfl)
  | (obtain⟨t,rfl⟩:=G;rfl)
theorem Gf:OpR X (compareOp .IsNot) (λx y H Q=>y=.non/\Q (.bl (!decide (x=.non))) H):=by
 intro pins s σ H x y v u Q I G J h;obtain⟨rfl,q⟩:=h;cases J;refine isnot_none_gen (Qm I q ?_);cases x<;>first
  | (cases G;rfl)
  | (obtain⟨t,rfl⟩:=G;rfl)
theorem QK(b:Expr){op:CmpOp}(h:op≠.In:=by decide)(h2:op≠.NotIn:=by decide):behindInMarks op b=false:=by
 have e1:(op==CmpOp.In)=false:=by cases op<;>first | rfl | exact absurd rfl h
 have e2:(op==CmpOp.NotIn)=false:=by cases op<;>first | rfl | exact absurd rfl h2
 cases b<;>simp [behindInMarks,e1,e2]
theorem YG{op:CmpOp}{r:R2}(ho:OpR X (compareOp op) r)(ha:PE X a ta)(hb:PE X b tb)(hm:behindInMarks op b=false):PE X (.Compare a [op] [b] pos) (tOp r ta tb):=by
 intro pins s σ H Q I h;exact wpAny_Compare1 (Rl ha hb I h λv u G x y H2 J L U q=>ho pins G σ H2 x y v u Q J L U q) hm
def SE(t:TE):TT:=λσ H Q=>t σ H λx H'=>∃k,x=.bl k/\Q k H'
theorem QC{op:CmpOp}{r:R2}(ho:OpR X (compareOp op) r)(ha:PE X a ta)(hb:PE X b tb)(hm:behindInMarks op b=false):PT X (.Compare a [op] [b] pos) (SE (tOp r ta tb)):=by
 intro pins s σ H Q I h;refine wpAny_isTrue_Compare1 (thn (70:) λv G ⟨x,H1,J,L,U⟩=>thn (hb pins G σ H1 _ J U) λu Y ⟨y,H2,Z,r2,q2⟩=>
  thn (ho pins Y σ H2 x y v u _ Z L r2 q2) λc s3 ⟨z,H3,I3,r3,k,e,q3⟩=>?_) hm
 subst e;cases r3;exact wpAny_truthy_bool ⟨H3,I3,q3⟩
theorem Yv:(sizeLine:Nat)<2^63:=by rw [sizeLine_eq];decide
theorem US{x:V}{us:List Value}(r:Vals [x] us):∃u,us=[u]/\RelV x u:=by
 cases r with
 | cons G J=>cases J;exact⟨_,rfl,G⟩
theorem O2{x y:V}{us:List Value}(r:Vals [x,y] us):∃u w',us=[u,w']/\RelV x u/\RelV y w':=by
 cases r with
 | cons G J=>
  cases J with
  | cons L U=>cases U;exact⟨_,_,rfl,G,L⟩
theorem JQ:QR X (.type "int") (λxs H Q=>(∃i,xs=[.int i]/\Q (.int i) H)\/∃k,xs=[.bl k]/\Q (.int (if k then 1 else 0)) H):=by
 intro pins s σ H xs J Q I r h;rcases h with⟨i,rfl,q⟩ | ⟨k,rfl,q⟩
 .obtain⟨u,rfl,t,rfl⟩:=US r;exact call_int_int ⟨.int i,H,I,(51:),q⟩
 .obtain⟨u,rfl,G⟩:=US r;cases G;exact call_int_bool ⟨.int (if k then 1 else 0),H,I.tok _,(51:),q⟩
def AF(K:Fg)(x:V)(H:Hp)(n:Nat):Prop:=
 match x with
 | .str y=>y.length<=sizeLine/\n=y.length
 | .byt y=>y.size<=sizeLine/\n=y.size
 | .ref p=>(∃xs,SqL K H p xs/\n=xs.length)\/∃xs,SqT K H p xs/\n=xs.length
 | _=>False
theorem call_len:QR X (.builtin "len") (λxs H Q=>∃x n,xs=[x]/\AF X.K x H n/\Q (.int n) H):=by
 intro pins s σ H xs us Q I r h;obtain⟨x,n,rfl,e,q⟩:=h;obtain⟨u,rfl,L⟩:=US r;have hl:=Yv;have hs:sizeLine=16777216:=sizeLine_eq;cases x with
 | str y=>
  obtain⟨t,rfl⟩:=L;obtain⟨Z,G⟩:y.length<=sizeLine/\n=y.length:=e;subst G;exact len_str (6:) ⟨.int _,H,I.tok _,(51:),q⟩
 | byt y=>
  obtain⟨t,rfl⟩:=L;obtain⟨Z,G⟩:y.size<=sizeLine/\n=y.size:=e;subst G;exact PySem.W.len_bytes (6:) ⟨.int _,H,I.tok _,(51:),q⟩
 | ref p=>
  cases L;have G:(∃xs,SqL X.K H p xs/\n=xs.length)\/∃xs,SqT X.K H p xs/\n=xs.length:=e;rcases G with⟨xs,U,G⟩ | ⟨xs,U,G⟩
  .subst G;obtain⟨its,Y,pl,hz⟩:=I.list U;have J:=Y.length;exact Calls.call_len_list pl.isList (by simp only [List.size_toArray];lia) ⟨.int xs.length,H,I.tok _,⟨_,by simp only [List.size_toArray];rw [J]⟩,q⟩
  .subst G;obtain⟨its,Y,pl,hz⟩:=I.tuple U;have J:=Y.length;exact len_tuple pl (by simp only [List.size_toArray];lia) ⟨.int xs.length,H,I.tok _,⟨_,by simp only [List.size_toArray];rw [J]⟩,q⟩
 | _=>exact(show False from e).elim
end
end L2
namespace L2
open PySem PySem.Spec PyProof.Rows
structure ObjM(h:Heap)(x dx C:Addr)(mA:Str->Option Value):Prop where
 obj:h.get? x=some (PySem.W.instObj C dx)
 ns:h.Ns1 dx mA
 ne:dx≠x
theorem G4{h:Heap}{dx:Addr}{mA:Str->Option Value}(n:h.Ns1 dx mA):∃od,h.get? dx=some od/\∀name,PySem.W.lookIn name od=some (mA name):=by
 obtain⟨o,es,ep,J,L,U,_,Y⟩:=n;refine⟨o,J,λname=>?_⟩;have e:=Y name;unfold nsFind findBy at e;rw [<-Array.find?_toList]at e;unfold PySem.W.lookIn;rw [L];dsimp only;split
 .rename_i y q;rw [q]at e;exact congrArg some e
 .rename_i q;rw [q]at e;have a:es.toList.any (·.refKey)=false:=by
   rw [List.any_eq_false];intro y Z;obtain⟨z,t,G⟩:=U y (Array.mem_toList_iff.mp Z);simp [DictEntry.refKey,G]
  have a':¬es.toList.any (·.refKey)=true:=by rw [a];exact Bool.false_ne_true
  rw [if_neg a'];exact congrArg some e
theorem ObjM.look{h:Heap}{x dx C:Addr}{mA:Str->Option Value}(I:ObjM h x dx C mA):∃od,PySem.W.InstAt h x (PySem.W.instObj C dx) C (some od)/\∀name,PySem.W.lookIn name od=some (mA name):=
 let⟨od,G,J⟩:=G4 I.ns
 ⟨od,⟨I.obj,rfl,rfl,G⟩,J⟩
section
variable{prog:Program}{w:World}{A:Around}{E:Value->Shared->Prop}{s:Shared}{K:Fg}{x dx C f:Addr}{mA:Str->Option Value}{name:Str}{v:Value}
theorem OX{expr:Bool}{Q:Value->Shared->Prop}(X:K.In s.heap)(I:ObjM s.heap x dx C mA)(hg:PySem.W.plainGet K C name=true)(hh:PySem.W.hasDictIn K C=true)
 (ha:PySem.W.findIn K (.ref C) name=some none) (hv:mA name=some v) (hv':PySem.W.handedIn v=true) (h:Q v { s with toks:=s.toks+1 }):
 wpAny (27:) A (getAttr (.ref x) name expr) Q E s:=by
 obtain⟨L,J,G⟩:=I.look;exact PySem.W.get_value X J (PySem.W.plainGet_of hg).1 (PySem.W.findObj_own hh ha rfl (by rw [G,hv])) hv' h
theorem Nq{pl:Sem Bool}{Q:Value×List Value->Shared->Prop}(X:K.In s.heap)(I:ObjM s.heap x dx C mA)(hg:PySem.W.plainGet K C name=true)
 (hf:PySem.W.findIn K (.ref C) name=some (some (82:))) (ht:PySem.W.isFn K (82:)=true) (hv:mA name=none) (h:Q (.ref f,[.ref x]) s):
 wpAny (27:) A (getMethod (.ref x) name pl) Q E s:=by
 obtain⟨G,J,L⟩:=I.look;exact PySem.W.method_fn X J (PySem.W.plainGet_of hg).1 (PySem.W.plainGet_of hg).2 hf (beq_iff_eq.mp ht) (by show(PySem.W.lookIn name G).map (·.isSome)=some false;rw [L,hv];rfl) h
theorem Oi{ns:List Str}{Q:Unit->Shared->Prop}(X:K.In s.heap)(I:ObjM s.heap x dx C mA)
 (hs:PySem.W.findIn K (.ref C) "__setattr__"=some (some (.builtin "object.__setattr__"))) (hp:PySem.W.plainOver K C=true) (ht:PySem.W.takerIn K C name=some none) (hh:PySem.W.hasDictIn K C=true)
 (hw:PySem.Within mA ns) (hsz:ns.length<=sizeLine)
 (h:∀h',ObjM h' x dx C (λy=>if y=name then some v else mA y)->Heap.SameBut dx s.heap h'->Q () { s with heap:=h',toks:=s.toks+2 }):
 wpAny (27:) A (setAttr (.ref x) name v) Q E s:=by
 obtain⟨od,J,hl⟩:=I.look;refine PySem.W.set_plain X J hs (PySem.W.osa_open (s:={ s with toks:=s.toks+1 }) (r:=none) X J hp ht λb=>?_);obtain⟨cd,hc,U⟩:=PySem.W.any_some hh;have hx:s.heap.get? x=some ⟨.ref C,some dx,.plain,#[]⟩:=I.obj;refine wpAny_bind (wpAny_pure (wpAny_bind (wpAny_bind (wpAny_loadPart hx (wpAny_bind (PySem.W.Looks.here (s:={ s with toks:=s.toks+1 }) (PySem.W.looks_clsIn X hc) ?_))))));rw [U];refine wpAny_pure (a:=some dx) (wpAny_bind (wpAny_pure (wpAny_bind ?_)));refine wpAny_nsSet1 (s:={ s with toks:=s.toks+1 }) I.ns λh' G L=>?_;obtain⟨oD,ab,ac,Y,Z,aa⟩:=G.count (PySem.Within.cons name v hw);refine wpAny_bind (wpAny_lookBehind Y (by rw [Z];exact pastItsLine_dict (Nat.le_trans aa (by rw [List.length_cons];lia))) ?_);exact wpAny_pure (h _ ⟨(L.2 _ (Ne.symm I.ne)).trans I.obj,G,I.ne⟩ L)
theorem Lq{R:Result->Shared->Prop}{vs:List Value}{kw:List (Str×Value)}(X:K.In s.heap)(hm:PySem.W.makesIn K C=true)
 (hi:PySem.W.findIn K (.ref C) "__init__"=some (some (82:))) (hf:PySem.W.typeIn K (82:)=some (.type "function"))
 (h:codeAny (27:) (A.under (.builtin "type.__call__" ⟨.ref C::vs,kw⟩)) (.call (82:) ⟨.ref (23:)::vs,kw⟩) (PySem.W.InitBack (23:) R)
  { s with heap:=(s.heap.push PySem.W.emptyDict).push (PySem.W.instObj C s.heap.objs.size) }):
 codeAny (27:) A (.call (.ref C) ⟨vs,kw⟩) R s:=by
 obtain⟨J,g,d,t,os⟩:=s;exact PySem.W.make_core (PySem.W.makes_of X hm) (PySem.W.looks_findIn X hi) (λG=>PySem.W.bind_fn X G hf) (.inl rfl) h
end
def Q6(f:Str)(v:V):List (Str×V)->List (Str×V)
 | []=>[(f,v)]
 | (g,x)::r=>if g=f then(g,v)::r else(g,x)::Q6 f v r
theorem Uv(f g:Str)(v:V):∀fs:List (Str×V),(Q6 f v fs).lookup g=if g=f then some v else fs.lookup g
 | []=>by
  show List.lookup g [(f,v)]=_
  by_cases h:g=f
  .have G:(g==f)=true:=beq_iff_eq.mpr h;simp only [List.lookup,G,if_pos h]
  .have G:(g==f)=false:=beq_eq_false_iff_ne.mpr h;simp only [List.lookup,G,if_neg h]
 | (k,x)::r=>by
  have L:=Uv f g v r;rw [show Q6 f v ((k,x)::r)=(if k=f then(k,v)::r else(k,x)::Q6 f v r)from rfl]
  by_cases J:k=f
  .rw [if_pos J]
   by_cases h:g=k
   .have G:(g==k)=true:=beq_iff_eq.mpr h;simp only [List.lookup,G,if_pos (h.trans J)]
   .have G:(g==k)=false:=beq_eq_false_iff_ne.mpr h;simp only [List.lookup,G,if_neg (λe:g=f=>h (e.trans J.symm))]
  .rw [if_neg J]
   by_cases h:g=k
   .have G:(g==k)=true:=beq_iff_eq.mpr h;simp only [List.lookup,G,if_neg (λe:g=f=>J (h.symm.trans e))]
   .have G:(g==k)=false:=beq_eq_false_iff_ne.mpr h;simp only [List.lookup,G];exact L
theorem Uf(f:Str)(v:V):∀fs:List (Str×V),f∈(Q6 f v fs).map (·.1)/\∀g,g∈fs.map (·.1)->g∈(Q6 f v fs).map (·.1)
 | []=>⟨by simp [Q6],λg h=>by simp at h⟩
 | (k,x)::r=>by
  obtain⟨i1,i2⟩:=Uf f v r;rw [show Q6 f v ((k,x)::r)=(if k=f then(k,v)::r else(k,x)::Q6 f v r)from rfl]
  by_cases G:k=f
  .rw [if_pos G];subst G;exact⟨by simp,λg h=>by simpa using h⟩
  .rw [if_neg G];refine⟨?_,λg h=>?_⟩
   .rw [List.map_cons];exact List.mem_cons_of_mem _ i1
   .rw [List.map_cons]at h ⊢;rcases List.mem_cons.mp h with e | e
    .exact List.mem_cons.mpr (.inl e)
    .exact List.mem_cons_of_mem _ (i2 g e)
theorem Uy(f:Str)(v:V):∀fs:List (Str×V),(Q6 f v fs).length<=fs.length+1
 | []=>by simp [Q6]
 | (k,x)::r=>by
  have J:=Uy f v r;rw [show Q6 f v ((k,x)::r)=(if k=f then(k,v)::r else(k,x)::Q6 f v r)from rfl]
  by_cases G:k=f
  .rw [if_pos G,List.length_cons,List.length_cons];lia
  .rw [if_neg G,List.length_cons,List.length_cons];lia
theorem RelO.some_of{v:V}{o:Option Value}(r:RelO (some v) o):∃u,o=some u/\RelV v u:=by
 cases o with
 | none=>exact(show False from r).elim
 | some u=>exact⟨u,rfl,r⟩
theorem RelO.none_of{o:Option Value}(r:RelO none o):o=none:=by
 cases o with
 | none=>rfl
 | some u=>exact(show False from r).elim
theorem G0{v:V}{u:Value}(r:RelV v u):PySem.W.handedIn u=true:=by
 cases v with
 | non=>cases (show u=Value.none from r);rfl
 | bl b=>cases (show u=Value.bool b from r);rfl
 | int i=>obtain⟨t,e⟩:=(show ∃t,u=Value.int i t from r);cases e;rfl
 | str x=>obtain⟨t,e⟩:=(show ∃t,u=Value.str x t from r);cases e;rfl
 | byt b=>obtain⟨t,e⟩:=(show ∃t,u=Value.bytes b t from r);cases e;rfl
 | flt b=>obtain⟨t,e⟩:=(show ∃t,u=Value.float b t from r);cases e;rfl
 | ref a=>cases (show u=Value.ref a from r);rfl
 | ty n=>cases (show u=Value.type n from r);rfl
section
variable{P:Program}{w:World}{H H':Hp}{h h':Heap}{a C dx:Addr}{fs fs':List (Str×V)}
theorem UI(hok:HOk P w H h)(e:H a=some (.ins C dx fs)):∃mA,ObjM h a dx C mA/\(∀f,RelO (fs.lookup f) (mA f))/\PySem.Within mA (fs.map (·.1))/\fs.length<=1000/\H dx=some (.own a):=by
 obtain⟨d,z,G,J,mA,n,r,q⟩:=(show ObjOk P w H h a (.ins C dx fs)from hok a _ e);exact⟨mA,⟨J,n,G⟩,r,q,z,d⟩
end
structure Cls(K:Fg)(C:Addr):Prop where
 pg:PySem.W.plainGet K C Str.empty=true
 hd:PySem.W.hasDictIn K C=true
 po:PySem.W.plainOver K C=true
 sa:PySem.W.findIn K (.ref C) "__setattr__"=some (some (.builtin "object.__setattr__"))
theorem Cls.get{K:Fg}{C:Addr}(c:Cls K C)(f:Str):PySem.W.plainGet K C f=true:=c.pg
def NoAttr(K:Fg)(C:Addr)(f:Str):Prop:=PySem.W.findIn K (.ref C) f=some none
theorem NoAttr.taker{K:Fg}{C:Addr}{f:Str}(n:NoAttr K C f):PySem.W.takerIn K C f=some none:=by
 unfold PySem.W.takerIn;rw [show PySem.W.findIn K (.ref C) f=some none from n]
 rfl
structure Meth(K:Fg)(C:Addr)(m:Str)(f:Addr):Prop where
 at_:PySem.W.findIn K (.ref C) m=some (some (82:))
 fn:PySem.W.isFn K (82:)=true
 kp:PySem.W.keepIn K (82:)=true
section
variable{X:Cx}{pins:List (8:)}{σ:St}{H:Hp}{s:Shared}{a C dx:Addr}{fs:List (Str×V)}{f:Str}{v:V}{A:Around}{E:Value->Shared->Prop}
theorem Jt{b:Bool}{Q:Value->Shared->Prop}(I:Inv X pins σ H s)(e:H a=some (.ins C dx fs))(c:Cls X.K C)(n:NoAttr X.K C f)(l:fs.lookup f=some v)
 (h:∀u s',Inv X pins σ H s'->RelV v u->Q u s'):wpAny (3:) A (getAttr (.ref a) f b) Q E s:=by
 obtain⟨mA,O,r,_,_,_⟩:=UI I.hok e;obtain⟨u,G,ru⟩:=RelO.some_of (v:=v) (o:=mA f) (by rw [<-l];exact r f);exact OX I.kIn O (c.get f) c.hd n G (G0 ru) (h u _ (I.tok _) ru)
theorem Jk{m:Str}{g:Addr}{pl:Sem Bool}{Q:Value×List Value->Shared->Prop}(I:Inv X pins σ H s)(e:H a=some (.ins C dx fs))(c:Cls X.K C)(k:Meth X.K C m g)(l:fs.lookup m=none)
 (h:Q (.ref g,[.ref a]) s):wpAny (3:) A (getMethod (.ref a) m pl) Q E s:=by
 obtain⟨mA,O,r,_,_,_⟩:=UI I.hok e;have G:mA m=none:=RelO.none_of (by rw [<-l];exact r m);exact Nq I.kIn O (c.get m) k.at_ k.fn G h
theorem UW{y:V}{u:Value}{Q:Unit->Shared->Prop}(I:Inv X pins σ H s)(e:H a=some (.ins C dx fs))(c:Cls X.K C)(n:NoAttr X.K C f)(hl:fs.length<1000)(ry:RelV y u)
 (h:∀s',Inv X pins σ (upd H a (.ins C dx (Q6 f y fs))) s'->Q () s'):wpAny (3:) A (setAttr (.ref a) f u) Q E s:=by
 obtain⟨mA,O,r,J,_,L⟩:=UI I.hok e;have U:(fs.map (·.1)).length<=sizeLine:=by rw [List.length_map,sizeLine_eq];lia
 refine Oi I.kIn O c.sa c.po n.taker c.hd J U λh' G Y=>h _ ?_;have Z:∃o,h'.get? dx=some o:=let⟨o,_,_,e',_⟩:=G.ns;⟨o,e'⟩
 refine I.write (x:=a) (e:=dx) (by rw [e];exact True.intro) (.inr L) (λb q hb z=>(Y.2 b hb).trans z) Z ?_;refine⟨by rw [Qg O.ne];exact L,?_,O.ne,G.obj,_,G.ns,λg=>?_,λg hg=>?_⟩
 .have:=Uy f y fs;lia
 .show RelO ((Q6 f y fs).lookup g) (if g=f then some u else mA g);rw [Uv]
  by_cases q:g=f
  .rw [if_pos q,if_pos q];exact ry
  .rw [if_neg q,if_neg q];exact r g
 .by_cases q:g=f
  .rw [q];exact(Uf f y fs).1
  .refine(Uf f y fs).2 g (J g λz=>hg ?_);show(if g=f then some u else mA g)=none;rw [if_neg q];exact z
theorem Inv.made(I:Inv X pins σ H s):Inv X pins σ (upd (upd H s.heap.objs.size (.own (23:))) (23:) (.ins C s.heap.objs.size []))
 { s with heap:=(s.heap.push PySem.W.emptyDict).push (PySem.W.instObj C s.heap.objs.size) }:=by
 have e1:(s.heap.push PySem.W.emptyDict).get? s.heap.objs.size=some PySem.W.emptyDict:=Heap.get?_push_size s.heap rfl;have e2:((s.heap.push PySem.W.emptyDict).push (PySem.W.instObj C s.heap.objs.size)).get? (23:)=some (PySem.W.instObj C s.heap.objs.size):=by
  have:=Heap.get?_push_size (s.heap.push PySem.W.emptyDict) (o:=PySem.W.instObj C s.heap.objs.size) rfl
  rwa [Heap.size_push]at this
 have e3:(s.heap.push PySem.W.emptyDict).Ns s.heap.objs.size (λ_=>none):=⟨PySem.W.emptyDict,#[],_,e1,rfl,(λe J=>absurd J (21:)),λ_=>rfl⟩;have L:=I.laid (a:=s.heap.objs.size) (o:=.own (23:)) (h':=s.heap.push PySem.W.emptyDict) (t':=s.toks) (λb u q=>Heap.get?_push_of_some _ q) (7:) ⟨_,e1⟩;refine L.laid (a:=s.heap.objs.size+1) (o:=.ins C s.heap.objs.size []) (t':=s.toks) (λb u q=>Heap.get?_push_of_some _ q) (Nat.le_of_eq (Heap.size_push _ _)) ?_;have G:s.heap.objs.size≠s.heap.objs.size+1:=Nat.ne_of_lt (Nat.lt_succ_self _);refine⟨by rw [Qg G,Qb],Nat.zero_le _,G,e2,λ_=>none,(Heap.Ns1.of_empty e3).at λo q=>Heap.get?_push_of_some _ q,λ_=>True.intro,λy U=>absurd rfl U⟩
theorem Ot{prog:Program}{w:World}{env:Env}{e:Expr}{f:Str}{pos:Pos}{s:Shared}{Q:Value->Shared->Prop}(hb:attributeBase e f env (eval e env)=eval e env)
 (h:wpAny (27:) A (eval e env) (λo s₁=>wpAny (27:) A (getAttr o f true) Q E s₁) E s):wpAny (27:) A (eval (.Attribute e f pos) env) Q E s:=
 Attribute_any_ h (by rw [arm_eval_Attribute,hb])
end
def Ae(K:Fg)(ta:TE)(f:Str):TE:=λσ H Q=>ta σ H λx H1=>∃a C dx fs v,x=.ref a/\H1 a=some (.ins C dx fs)/\Cls K C/\NoAttr K C f/\fs.lookup f=some v/\Q v H1
def At(K:Fg)(ta tv:TE)(f:Str):TS:=λD σ H=>tv σ H λy H1=>ta σ H1 λx H2=>∃a C dx fs,x=.ref a/\H2 a=some (.ins C dx fs)/\Cls K C/\NoAttr K C f/\fs.length<1000/\
 D.nx σ (upd H2 a (.ins C dx (Q6 f y fs)))
def SZ(X:Cx)(op:Operator)(rd:V->V->Hp->VK->Prop):Prop:=
 ∀(pins:List (8:))(s:Shared)(σ:St)(H:Hp)(x y:V)(u v:Value)(Q:VK),Inv X pins σ H s->RelV x u->RelV y v->rd x y H Q->wpAny (3:) X.A (inplaceOp op u v) (74:) X.xe s
def O0(K:Fg)(ta tv:TE)(rd:V->V->Hp->VK->Prop)(f:Str):TS:=λD σ H=>ta σ H λx H1=>∃a C dx fs v,x=.ref a/\H1 a=some (.ins C dx fs)/\Cls K C/\NoAttr K C f/\fs.lookup f=some v/\
 tv σ H1 λy H2=>rd v y H2 λz H3=>∃dx' fs',H3 a=some (.ins C dx' fs')/\fs'.length<1000/\D.nx σ (upd H3 a (.ins C dx' (Q6 f z fs')))
section
variable{X:Cx}{o e value:Expr}{f:Str}{pos pos' tpos:Pos}{ta tv:TE}
theorem Q5(he:PE X e ta)(hb:attributeBase e f X.env (eval e X.env)=eval e X.env):PE X (.Attribute e f pos) (Ae X.K ta f):=by
 intro pins s σ H Q I h;refine Ot hb (thn (84:) λu Y ⟨x,H1,G,J,a,C,dx,fs,v,ex,L,c,n,l,q⟩=>?_);subst ex;obtain rfl:u=Value.ref a:=J;exact Jt G L c n l λZ s2 U ru=>⟨v,H1,U,ru,q⟩
theorem Z1(ha:PE X o ta)(hv:PE X value tv)(hs:swapsWith value (some (.Attribute o f pos')) pos.line X.env=pure false):PS X (.Assign [.Attribute o f pos'] value pos) (At X.K ta tv f):=by
 intro pins s σ H D I h;refine plainObj_wpAny_Assign_Attribute (thn (hv pins s σ H _ I h) λu G ⟨y,H1,J,L,q⟩=>thn (ha pins G σ H1 _ J q) λU s2 ⟨x,H2,Y,Z,a,C,dx,fs,ex,ea,c,n,l,q2⟩=>?_) hs;subst ex;obtain rfl:U=Value.ref a:=Z;exact UW Y ea c n l L λs3 I3=>⟨σ,_,I3,q2⟩
theorem GI{op:Operator}{rd:V->V->Hp->VK->Prop}(ha:PE X o ta)(hv:PE X value tv)(hop:SZ X op rd):PS X (.AugAssign (.Attribute o f tpos) op value pos) (O0 X.K ta tv rd f):=by
 intro pins s σ H D I h;refine wpAny_AugAssign_AttributeAny (thn (70:) λJ s1 ⟨x,H1,L,U,a,C,dx,fs,v,ex,Y,c,n,l,q⟩=>?_);subst ex;obtain rfl:J=Value.ref a:=U;refine Jt L Y c n l λu Z I2 ru=>thn (hv pins Z σ H1 _ I2 q) λw3 s3 ⟨y,H2,I3,ry,q3⟩=>thn (hop pins s3 σ H2 v y u w3 _ I3 ru ry q3) λw4 s4 ⟨z,H3,I4,rz,aa,fs',G,l',q4⟩=>?_;exact UW I4 G c n l' rz λs5 I5=>⟨σ,_,I5,q4⟩
def AH:V->V->Hp->VK->Prop:=λx y H Q=>∃i j,x=.int i/\y=.int j/\Q (.int (i-j)) H
theorem Rm:SZ X .Sub AH:=by
 rintro pins s σ H x y u v Q I J L ⟨i,j,rfl,rfl,q⟩;obtain⟨t,rfl⟩:=(show ∃t,u=Value.int i t from J);obtain⟨G,rfl⟩:=(show ∃G,v=Value.int j G from L);exact PyProof.Rows.isub_int ⟨.int (i-j),H,I.tok _,(51:),q⟩
end
section
variable{X:Cx}{pins:List (8:)}{σ:St}{H:Hp}{s:Shared}{A:Around}{E:Value->Shared->Prop}{Q:Value->Shared->Prop}{c:Value}{b:Bool}
inductive TyOf(K:Fg)(H:Hp):V->Value->Prop where
 | non:TyOf K H .non (.type "NoneType")
 | bl (x:Bool):TyOf K H (.bl x) (.type "bool")
 | int (i:Int):TyOf K H (.int i) (.type "int")
 | str (x:Str):TyOf K H (.str x) (.type "str")
 | flt (x:UInt64):TyOf K H (.flt x) (.type "float")
 | lst {a:Addr} {xs:List V} (e:H a=some (.lst xs)):TyOf K H (.ref a) (.type "list")
 | frz {a:Addr} {o:Obj} {xs:List V} (e:H a=some (.frz o (.lst xs))):TyOf K H (.ref a) (.type "list")
 | tup {a:Addr} {xs:List V} (e:H a=some (.tup xs)):TyOf K H (.ref a) (.type "tuple")
 | dK {a:Addr} {kvs:List (Key×V)} (e:H a=some (.dK kvs)):TyOf K H (.ref a) (.type "dict")
 | dT {a:Addr} {kvs:List (88:)} (e:H a=some (.dT kvs)):TyOf K H (.ref a) (.type "dict")
 | ins {a C dx:Addr} {fs:List (Str×V)} (e:H a=some (.ins C dx fs)) (cl:Cls K C) (ha:PySem.W.findIn K (.ref C) "__class__"=some (some (.builtin "object.__class__")))
  (hn:PySem.W.specialIn K (.builtin "object.__class__") "__get__"=some (some (.builtin "getset_descriptor.__get__"))) (htk:PySem.W.takesIn K (.builtin "object.__class__")=some true)
  (hm:PySem.W.mroIn K C (.type "object")=some true):TyOf K H (.ref a) (.ref C)
theorem Lf{x:V}{u t:Value}(I:Inv X pins σ H s)(rx:RelV x u)(ty:TyOf X.K H x t)(e:PySem.W.kitOne X.K t c=some b)(h:∀tk,Q (.bool b) { s with toks:=tk }):
 wpAny (3:) A (call (.builtin "isinstance") [u,c]) Q E s:=by
 cases ty with
 | non=>cases (show u=Value.none from rx);exact PySem.W.kia_one PySem.W.kitx_none I.kIn True.intro e (λz=>nomatch z) h
 | bl y=>cases (show u=Value.bool y from rx);exact PySem.W.kia_one PySem.W.kitx_bool I.kIn True.intro e (λz=>nomatch z) h
 | int i=>obtain⟨t,q⟩:=(show ∃t,u=Value.int i t from rx);cases q;exact PySem.W.kia_one PySem.W.kitx_int I.kIn True.intro e (λz=>nomatch z) h
 | str y=>obtain⟨t,q⟩:=(show ∃t,u=Value.str y t from rx);cases q;exact PySem.W.kia_one PySem.W.kitx_str I.kIn True.intro e (λz=>nomatch z) h
 | flt y=>obtain⟨t,q⟩:=(show ∃t,u=Value.float y t from rx);cases q;exact PySem.W.kia_one PySem.W.kitx_float I.kIn True.intro e (λz=>nomatch z) h
 | @lst a xs G=>
  cases (show u=Value.ref a from rx);obtain⟨_,_,n,_,h1⟩:=(show ObjOk X.prog X.w H s.heap a (.lst xs)from I.hok a _ G);exact PySem.W.kia_one PySem.W.kitx_list I.kIn ⟨_,h1,rfl⟩ e (44:) h
 | @frz a U xs G=>
  cases (show u=Value.ref a from rx);obtain⟨_,_,_,n,_,h1⟩:=(show ObjOk X.prog X.w H s.heap a (.frz U (.lst xs))from I.hok a _ G);exact PySem.W.kia_one PySem.W.kitx_list I.kIn ⟨_,h1,rfl⟩ e (44:) h
 | @tup a xs G=>
  cases (show u=Value.ref a from rx);obtain⟨_,_,_,p⟩:=(show ObjOk X.prog X.w H s.heap a (.tup xs)from I.hok a _ G);obtain⟨o,h1,h2,_⟩:=p;exact PySem.W.kia_one PySem.W.kitx_tuple I.kIn ⟨o,h1,h2⟩ e (44:) h
 | @dK a kvs G=>
  cases (show u=Value.ref a from rx);obtain⟨_,_,vs,_,p⟩:=(show ObjOk X.prog X.w H s.heap a (.dK kvs)from I.hok a _ G);obtain⟨o,es,ep,h1,h2,_⟩:=p;exact PySem.W.kia_one PySem.W.kitx_dict I.kIn ⟨o,h1,h2.1⟩ e (44:) h
 | @dT a kvs G=>
  cases (show u=Value.ref a from rx);obtain⟨_,_,xs,_,o,es,ep,h1,h2,_⟩:=(show ObjOk X.prog X.w H s.heap a (.dT kvs)from I.hok a _ G);exact PySem.W.kia_one PySem.W.kitx_dict I.kIn ⟨o,h1,h2.1⟩ e (44:) h
 | @ins a C dx fs G cl Y Z L hm=>
  cases (show u=Value.ref a from rx);obtain⟨mA,O,_⟩:=UI I.hok G;obtain⟨od,J,_⟩:=O.look;exact PySem.W.kia_one (PySem.W.kitx_own (cl.get _) cl.hd Y Z L hm) I.kIn J e (44:) h
end
end L2
namespace L2
open PySem PySem.Spec PyProof.Rows
structure Room(k:Nat)(A:Around):Prop where
 hd:A.handled=none
 dp:A.depth+3*k+5<recursionLimit
 un:A.units+16*k+200<cLine
theorem Room.mono{j k:Nat}{A:Around}(r:Room k A)(h:j<=k):Room j A:=⟨r.hd,by have:=r.dp;lia,by have:=r.un;lia⟩
theorem Room.deeper{k:Nat}{A:Around}(r:Room (k+1) A)(env:Env):Room k (A.deeper env):=
 ⟨r.hd,by have:=r.dp;show A.depth+1+3*k+5<_;lia,by have:=r.un;show A.units+3+16*k+200<_;lia⟩
theorem VI{A:Around}{C:Addr}{us:List Value}{kw:List (Str×Value)}:(79:).depth=A.depth+1:=by
 first | rfl | simp [Around.under,Code.weight,Code.isCreation,Code.isGuard,Code.isCaller,Code.frames,Code.isFrame,guardIds]
theorem WY{A:Around}{C:Addr}{us:List Value}{kw:List (Str×Value)}:(79:).units=A.units+1:=by
 first | rfl | simp [Around.under,Code.cUnits,Code.frames,Code.isFrame]
theorem Room.make{k:Nat}{A:Around}(r:Room (k+1) A)(C:Addr)(us:List Value)(kw:List (Str×Value)):Room k (79:):=
 ⟨r.hd,by have:=r.dp;rw [VI];lia,by have:=r.un;rw [WY];lia⟩
theorem Room.depth{k:Nat}{A:Around}(r:Room k A):A.depth<recursionLimit:=by have:=r.dp;lia
theorem Room.units{k:Nat}{A:Around}(r:Room k A):A.units+64<cLine:=by have:=r.un;lia
def GD:TA:=λ_ H Q=>Q [] H
def Yp(ta:TE)(tr:TA):TA:=λσ H Q=>ta σ H λx H1=>tr σ H1 λxs H2=>Q (x::xs) H2
section
variable{X:Cx}{e:Expr}{es:List Expr}{te:TE}{t:TA}{pos:Pos}
theorem Qe:PA X [] GD:=λ_ _ _ _ H Q I h=>Calls.spliced_nil ⟨[],H,I,.nil,h⟩
theorem Qa(ha:PE X e te)(hr:PA X es t)(hs:starEach (e::es) X.env=(46:)::starEach es X.env:=by rfl):PA X (e::es) (Yp te t):=by
 intro pos pins s σ H Q I h;rw [hs];show wpAny _ _ (spliced ((46:)::backTo pos (starEach es X.env))) _ _ s;refine Calls.spliced_cons (thn (70:) λu G ⟨x,H1,J,L,U⟩=>?_);exact thn (hr pos pins G σ H1 _ J U) λus s2 ⟨xs,H2,Y,Z,q2⟩=>⟨x::xs,H2,Y,.cons L Z,q2⟩
def SH(t:TA):TE:=λσ H Q=>t σ H λxs H1=>xs.length<=sizeLine/\∀p,H1 p=none->Q (.ref p) (upd H1 p (.tup xs))
def Av(t:TA):TE:=λσ H Q=>t σ H λxs H1=>xs.length<=sizeLine/\∀p,H1 p=none->Q (.ref p) (upd H1 p (.lst xs))
theorem Qx{x1}(h:PA X es t):PE X (.Tuple es x1 pos) (SH t):=by
 intro pins s σ H Q I L;refine wpAny_Tuple_spliced (thn (h pos pins s σ H _ I L) λU G ⟨xs,H1,J,r,z,q⟩=>⟨by rw [<-r.length];exact z,?_⟩);have Y:H1 G.heap.objs.size=none:=J.hok.fresh (7:);refine⟨.ref G.heap.objs.size,upd H1 G.heap.objs.size (.tup xs),J.laid (t':=G.toks) (λb u e=>Heap.get?_push_of_some _ e) (7:) ?_,rfl,q _ Y⟩;exact⟨z,U,r,⟨_,Heap.get?_push_size _ rfl,rfl,_,rfl⟩⟩
theorem Yt(h:PA X es t):PE X (.List es pos) (Av t):=by
 intro pins s σ H Q I L;refine wpAny_List_spliced (thn (h pos pins s σ H _ I L) λU G ⟨xs,H1,J,r,z,q⟩=>⟨by rw [<-r.length];exact z,?_⟩);have Y:H1 G.heap.objs.size=none:=J.hok.fresh (7:);refine⟨.ref G.heap.objs.size,upd H1 G.heap.objs.size (.lst xs),J.laid (t':=G.toks) (λb u e=>Heap.get?_push_of_some _ e) (7:) ?_,rfl,q _ Y⟩;exact⟨z,U,0,r,Heap.get?_push_size _ rfl⟩
end
abbrev Sp:=List V->Hp->VK->XK->Prop
abbrev CXT:=List Env->Hp->Shared->XK->Value->Shared->Prop
structure Env0(P:Program)(w:World)(K:Fg)(mg:Str->Option Value)(base:Heap)(A:Around)(outer:List Env)(s:Shared)(H:Hp):Prop where
 frames:A.frames=some outer
 mod:Mod K mg base
 bs:∀b o,base.get? b=some o->s.heap.get? b=some o/\H b=none
 bsz:base.objs.size<=s.heap.objs.size
 funs:s.heap.FunFrames base outer
 frf:∀b∈frs outer,H b=none
 hok:HOk P w H s.heap
 bare:AllBare s.gens
def CE(outer:List Env)(P:Program)(w:World)(H:Hp)(s:Shared)(Q:VK)(u:Value)(s':Shared):Prop:=
 ∃v H',s'.os=s.os/\AllBare s'.gens/\Un (frs outer) [] H H' s.heap s'.heap/\HOk P w H' s'.heap/\RelV v u/\Q v H'
def CR(CX:CXT)(outer:List Env)(P:Program)(w:World)(H:Hp)(s:Shared)(Q:VK)(E:XK)(r:Result)(s':Shared):Prop:=
 match r with
 | .ok (.ret u)=>CE outer P w H s Q u s'
 | .ok _=>False
 | .error e=>CX outer H s E e s'
structure FnOk(P:Program)(w:World)(K:Fg)(mg:Str->Option Value)(base:Heap)(CX:CXT)(k:Nat)(f:Addr)(fd:FuncData)(ps:List Str)(sp:Sp):Prop where
 len:∀vs H Q E,sp vs H Q E->vs.length=ps.length
 run:∀(A:Around)(outer:List Env)(s:Shared)(H:Hp)(args:Args)(us:List Value)(vs:List V)(Q:VK)(E:XK),Room k A->Env0 P w K mg base A outer s H->BindsTo s fd args (ps.zip us)->Vals vs us->sp vs H Q E->
  codeAny (model P w) A (.call (82:) args) (CR CX outer P w H s Q E) s
theorem Env0.make{P:Program}{w:World}{K:Fg}{mg:Str->Option Value}{base:Heap}{A:Around}{outer:List Env}{s:Shared}{H:Hp}(e:Env0 P w K mg base A outer s H)(C:Addr)(us:List Value)(kw:List (Str×Value)):
 Env0 P w K mg base (79:) outer s H:=⟨by first | exact e.frames | (simpa [Around.under,Code.envs,Code.isFrame,pushEnvs]using e.frames),e.mod,e.bs,e.bsz,e.funs,e.frf,e.hok,e.bare⟩
section
variable{X:Cx}{pins:List (8:)}{σ:St}{H:Hp}{s s':Shared}
theorem Inv.env0(I:Inv X pins σ H s):Env0 X.prog X.w X.K X.mg X.base X.A X.stack s H:=
 ⟨I.ok.frames,I.ok.mod,I.bs,Nat.le_trans I.ok.bsz I.sz,I.stack,I.stkFree,I.hok,I.bare⟩
theorem Inv.after{Q:VK}{u:Value}(I:Inv X pins σ H s)(h:CE X.stack X.prog X.w H s Q u s'):EP X pins σ Q u s':=by
 obtain⟨v,H',os,G,un,J,r,q⟩:=h;obtain⟨U,g,d,t,L⟩:=s';obtain rfl:L=s.os:=os;exact⟨v,H',I.call (h':=U) (g':=g) (d':=d) (t':=t) (ch:=[]) un J G (λb z=>absurd z (21:)),r,q⟩
end
def Wi(sp:Sp)(dvs:List V)(E:XK)(t:TA):TE:=λσ H Q=>t σ H λvs H1=>sp (vs++dvs) H1 Q E
def TD(C:Addr)(m:Str)(sp:Sp)(dvs:List V)(E:XK)(ta:TE)(t:TA):TE:=λσ H Q=>ta σ H λx H1=>∃a dx fs,x=.ref a/\H1 a=some (.ins C dx fs)/\fs.lookup m=none/\
 t σ H1 λvs H2=>sp (x::(vs++dvs)) H2 Q E
def S9(C:Addr)(sp:Sp)(dvs:List V)(E:XK)(t:TA):TE:=λσ H Q=>t σ H λvs H1=>∀x dx,H1 x=none->H1 dx=none->dx≠x->
 sp (.ref x::(vs++dvs)) (upd (upd H1 dx (.own x)) x (.ins C dx [])) (λv H2=>v=.non/\Q (.ref x) H2) E
def Binds(K:Fg)(fd:FuncData)(ps:List Str)(ds:List Value):Prop:=
 ∀(s:Shared)(us:List Value),K.In s.heap->(us++ds).length=ps.length->BindsTo s fd ⟨us,[]⟩ (ps.zip (us++ds))
theorem Binds.all{K:Fg}{fd:FuncData}{ps:List Str}(h:∀us:List Value,us.length=ps.length->bindArgs fd ⟨us,[]⟩=pure (ps.zip us)):Binds K fd ps []:=λs us _ G=>by
 rw [List.append_nil]at G ⊢;exact .of_eq (h us G)
def Yz(CX:CXT)(X:Cx)(E:XK):Prop:=∀(pins:List (8:))(σ:St)(H:Hp)(s:Shared)(e:Value)(s':Shared),Inv X pins σ H s->CX X.stack H s E e s'->X.xe e s'
section
variable{X:Cx}{CX:CXT}{k:Nat}{f C:Addr}{fd:FuncData}{ps:List Str}{sp:Sp}{dvs:List V}{ds:List Value}{E:XK}{x m:Str}{p pos apos:Pos}{e o:Expr}{es:List Expr}{ta:TE}{t:TA}
theorem Mp{pins:List (8:)}{σ:St}{H:Hp}{s:Shared}{Q:VK}{us:List Value}{vs:List V}(F:FnOk X.prog X.w X.K X.mg X.base CX k f fd ps sp)(hr:Room k X.A)(hb:Binds X.K fd ps ds)(hd:Vals dvs ds)(hx:Yz CX X E)
 (I:Inv X pins σ H s) (r:Vals vs us) (h:sp (vs++dvs) H Q E):wpAny (3:) X.A (call (82:) us) (74:) X.xe s:=by
 have J:Vals (vs++dvs) (us++ds):=r.append hd;have L:(us++ds).length=ps.length:=by rw [<-J.length];exact F.len _ _ _ _ h
 refine wpAny_call (codeAny_mono (F.run X.A X.stack s H ⟨us,[]⟩ (us++ds) (vs++dvs) Q E hr I.env0 (hb s us I.kIn L) J h) λr s' G=>?_);cases r with
 | error e=>exact hx pins σ H s e s' I G
 | ok U=>
  cases U with
  | ret u=>exact I.after G
  | next=>exact False.elim G
  | brk=>exact False.elim G
  | cont=>exact False.elim G
theorem OA(F:FnOk X.prog X.w X.K X.mg X.base CX k f fd ps sp)(hr:Room k X.A)(hg:Gl X x)(hm:X.mg x=some (82:))(hk:PySem.W.keepIn X.K (82:)=true)(hb:Binds X.K fd ps ds)(hd:Vals dvs ds)(hx:Yz CX X E)
 (ha:PA X (e::es) t) (hdb:(22:)=false:=by decide) (he:starEach (e::es) X.env=(46:)::starEach es X.env:=by rfl) (hpl:(39:).any (·.1)=false:=by rfl):
 PE X (50:) (Wi sp dvs E t):=by
 intro pins s σ H Q I h;refine wpAny_Call_Name_kw (ZP I hg hm ?_ hdb);refine PySem.W.callWith_K (h₀:=X.base) I.ok.mod.kin hk (thn (71:) λJ L ⟨vs,H1,G,r,q⟩=>⟨G.kIn,?_⟩) he hpl;exact Mp F hr hb hd hx G r q
theorem Yd{pl:Sem Bool}(he:PE X o ta)(c:Cls X.K C)(hm:Meth X.K C m f)(F:FnOk X.prog X.w X.K X.mg X.base CX k f fd ps sp)(hr:Room k X.A)(hb:Binds X.K fd ps ds)(hd:Vals dvs ds)(hx:Yz CX X E)(ha:PA X (e::es) t)
 (hst:starEach (e::es) X.env=(46:)::starEach es X.env:=by rfl) (hpl:(39:).any (·.1)=false:=by rfl)
 (ht:eval (.Call (.Attribute o m apos) (e::es) [] pos) X.env=(do
  let ov <-eval o X.env
  standAt apos.atName
  let(f,first) <-holding [ov] (getMethod ov m pl)
  callWith pos f first (backTo pos (starEach (e::es) X.env)) (backToKw pos (keywordEach [] X.env))):=by rfl):
 PE X (.Call (.Attribute o m apos) (e::es) [] pos) (TD C m sp dvs E ta t):=by
 intro pins s σ H Q I h;refine PySem.W.methodCall_KW (pl:=pl) (thn (84:) λu L ⟨x,H1,G,U,a,dx,fs,ex,Y,l,q⟩=>?_) ht;subst ex;obtain rfl:u=Value.ref a:=U;refine Jk G Y c hm l ?_;refine PySem.W.callWith_K (first:=[.ref a]) (h₀:=X.base) I.ok.mod.kin hm.kp (thn (ha pos pins L σ H1 _ G q) λZ s2 ⟨vs,H2,J,r,q2⟩=>⟨J.kIn,?_⟩) hst hpl;exact Mp (us:=.ref a::Z) (vs:=.ref a::vs) F hr hb hd hx J (.cons rfl r) q2
structure Mk(K:Fg)(C f:Addr):Prop where
 makes:PySem.W.makesIn K C=true
 init:PySem.W.findIn K (.ref C) "__init__"=some (some (82:))
 fn:PySem.W.isFn K (82:)=true
 kp:PySem.W.keepIn K (.ref C)=true
theorem Nk{pins:List (8:)}{σ:St}{H:Hp}{s:Shared}{Q:VK}{us:List Value}{vs:List V}(M:Mk X.K C f)(F:FnOk X.prog X.w X.K X.mg X.base CX k f fd ps sp)(hr:Room (k+1) X.A)(hb:Binds X.K fd ps ds)(hd:Vals dvs ds)
 (hx:Yz CX X E) (I:Inv X pins σ H s) (r:Vals vs us)
 (h:∀x dx,H x=none->H dx=none->dx≠x->sp (.ref x::(vs++dvs)) (upd (upd H dx (.own x)) x (.ins C dx [])) (λv H2=>v=.non/\Q (.ref x) H2) E):
 wpAny (3:) X.A (call (.ref C) us) (74:) X.xe s:=by
 have L:=h (23:) s.heap.objs.size (I.hok.fresh (Nat.le_succ _)) (I.hok.fresh (7:)) (Nat.ne_of_lt (Nat.lt_succ_self _));have J:=Inv.made (C:=C) I;have U:Vals (V.ref (23:)::(vs++dvs)) (Value.ref (23:)::(us++ds)):=.cons rfl (r.append hd);have Y:(Value.ref (23:)::us++ds).length=ps.length:=by
  have e:=U.length;rw [F.len _ _ _ _ L]at e;exact e.symm
 refine wpAny_call (Lq (f:=f) I.kIn M.makes M.init (beq_iff_eq.mp M.fn) (codeAny_mono (F.run _ X.stack _ _ ⟨Value.ref (23:)::us,[]⟩ (Value.ref (23:)::(us++ds)) _ _ E (hr.make C us [])
  (J.env0.make C us []) (hb _ (Value.ref (23:)::us) J.kIn Y) U L) λr s' G=>?_))
 cases r with
 | error e=>exact hx pins σ _ _ e s' J G
 | ok Z=>
  cases Z with
  | ret u=>
   obtain⟨v,H',I3,rv,ev,q3⟩:=J.after G;subst ev;exact⟨rv,⟨V.ref (23:),H',I3,rfl,q3⟩⟩
  | next=>exact False.elim G
  | brk=>exact False.elim G
  | cont=>exact False.elim G
theorem X8(M:Mk X.K C f)(F:FnOk X.prog X.w X.K X.mg X.base CX k f fd ps sp)(hr:Room (k+1) X.A)(hg:Gl X x)(hm:X.mg x=some (.ref C))(hb:Binds X.K fd ps ds)(hd:Vals dvs ds)(hx:Yz CX X E)
 (ha:PA X (e::es) t) (hdb:(22:)=false:=by decide) (he:starEach (e::es) X.env=(46:)::starEach es X.env:=by rfl) (hpl:(39:).any (·.1)=false:=by rfl):
 PE X (50:) (S9 C sp dvs E t):=by
 intro pins s σ H Q I h;refine wpAny_Call_Name_kw (ZP I hg hm ?_ hdb);refine PySem.W.callWith_K (h₀:=X.base) I.ok.mod.kin M.kp (thn (71:) λJ L ⟨vs,H1,G,r,q⟩=>⟨G.kIn,?_⟩) he hpl;exact Nk M F hr hb hd hx G r q
end
section
variable{X:Cx}{CX:CXT}{k:Nat}{f C:Addr}{fd:FuncData}{ps ks:List Str}{sp:Sp}{E:XK}{x m:Str}{p pos apos kpos:Pos}{e o:Expr}{es:List Expr}{kws:List Keyword}{te ta:TE}{t tk:TA}{nm:Option Str}
variable{g:List Value->List Value->List Value}{gV:List V->List V->List V}
end
structure FnScope(N P:List Str)(sc:Scope):Prop where
 kind:sc.kind=.function
 co:sc.isCoroutine=false
 gen:sc.isGenerator=false
 nd:N.Nodup
 pre:N.take P.length=P
 par:∀x∈P,sc.names.lookup x=some .local\/sc.names.lookup x=some .cell
 nofree:∀y∈sc.names,y.2≠.free
theorem JV{kindOf:Str->Option NameKind}{x:Str}:∀{binds:List (Str×Value)}{m:Str->Option Value},(∀v,(x,v)∉binds)->bindL kindOf binds m x=m x
 | [],_,_=>rfl
 | (n,v)::r,m,h=>by
  unfold bindL;rw [JV λw G=>h w (34:)];split
  .have:x≠n:=by rintro rfl;exact h v List.mem_cons_self
   simp [this]
  .rfl
theorem Xe{kindOf:Str->Option NameKind}{x:Str}:∀{binds:List (Str×Value)}{m:Str->Option Value},(∀v,(x,v)∉binds)->bindC kindOf binds m x=m x
 | [],_,_=>rfl
 | (n,v)::r,m,h=>by
  unfold bindC;rw [Xe λw G=>h w (34:)];split
  .rfl
  .have:x≠n:=by rintro rfl;exact h v List.mem_cons_self
   simp [this]
theorem JT{kindOf:Str->Option NameKind}{x:Str}{v:Value}:∀{P:List Str}{vs:List Value}{i:Nat}{m:Str->Option Value},P.Nodup->P[i]?=some x->vs[i]?=some v->kindOf x=some .local->
 bindL kindOf (P.zip vs) m x=some v
 | [],_,_,_,_,h,_,_=>by simp at h
 | _::_,[],_,_,_,_,h,_=>by simp at h
 | p::P,w::vs,0,m,nd,h1,h2,hk=>by
  simp at h1 h2;subst h1;subst h2;show bindL kindOf ((p,w)::P.zip vs) m p=_;unfold bindL;rw [JV λv G=>(List.nodup_cons.mp nd).1 (List.of_mem_zip G).1,if_pos hk];simp
 | p::P,w::vs,i+1,m,nd,h1,h2,hk=>by
  show bindL kindOf ((p,w)::P.zip vs) m x=_;unfold bindL;exact JT (i:=i) (List.nodup_cons.mp nd).2 (by simpa using h1) (by simpa using h2) hk
theorem JJ{kindOf:Str->Option NameKind}{x:Str}{v:Value}:∀{P:List Str}{vs:List Value}{i:Nat}{m:Str->Option Value},P.Nodup->P[i]?=some x->vs[i]?=some v->kindOf x≠some .local->
 bindC kindOf (P.zip vs) m x=some v
 | [],_,_,_,_,h,_,_=>by simp at h
 | _::_,[],_,_,_,_,h,_=>by simp at h
 | p::P,w::vs,0,m,nd,h1,h2,hk=>by
  simp at h1 h2;subst h1;subst h2;show bindC kindOf ((p,w)::P.zip vs) m p=_;unfold bindC;rw [Xe λv G=>(List.nodup_cons.mp nd).1 (List.of_mem_zip G).1,if_neg hk];simp
 | p::P,w::vs,i+1,m,nd,h1,h2,hk=>by
  show bindC kindOf ((p,w)::P.zip vs) m x=_;unfold bindC;exact JJ (i:=i) (List.nodup_cons.mp nd).2 (by simpa using h1) (by simpa using h2) hk
def ZH(N:List Str)(vs:List V):St:=vs.map some++List.replicate (N.length-vs.length) none
def Qn(CX:CXT)(P:Program)(w:World)(K:Fg)(mg:Str->Option Value)(base:Heap)(N:List Str)(qual:Str)(scope:Scope)(f:Addr)(cd:Value)(A:Around)(outer:List Env)(s:Shared)(H:Hp)(E:XK):Cx where
 prog:=P
 w:=w
 K:=K
 mg:=mg
 base:=base
 A:=A.deeper (9:)
 N:=N
 s₀:=s
 H₀:=H
 env:=envOfC qual scope s.heap.objs.size f cd
 outer:=outer
 stack:=envOfC qual scope s.heap.objs.size f cd::outer
 ex:=[]
 calm:=true
 fn:=λ_=>true
 pn:=[]
 xe:=λe s'=>wpAny (model P w) (A.deeper (9:)) (leaving (9:) e) (λ_ s''=>CX outer H s E e s'') (λe' s''=>CX outer H s E e' s'') s'
theorem Wt{sc:Scope}{n:Nat}{x:Str}(h:sc.names.lookup x=some .cell):∃c,(cellsFrom n sc.names []).lookup x=some c:=by
 have q:=PySem.W.cellsFrom_some sc.names n [] (.inl h);exact Option.isSome_iff_exists.mp q
theorem GV{CX:CXT}{P:Program}{w:World}{K:Fg}{mg:Str->Option Value}{base:Heap}{N ps:List Str}{qual:Str}{scope:Scope}{f:Addr}{cd:Value}{A:Around}{outer:List Env}{s s1:Shared}{H:Hp}{E:XK}{us:List Value}{vs:List V}
 (S:FnScope N ps scope) (hd:A.handled=none) (e0:Env0 P w K mg base A outer s H) (hl:vs.length=ps.length) (r:Vals vs us)
 (x:InCallC s s.heap.objs.size (bindL (9:).kindOf (ps.zip us) λ_=>none) (cellsFrom (23:) scope.names []) (bindC (9:).kindOf (ps.zip us) λ_=>none) s1):
 Inv (Qn CX P w K mg base N qual scope f cd A outer s H E) [] (ZH N vs) H s1:=by
 have aa:ps.length<=N.length:=by have:=congrArg List.length S.pre;rw [List.length_take]at this;lia
 obtain⟨h1,tk,rfl,L⟩:=x.done;have G:∀b:Addr,b∉(Qn CX P w K mg base N qual scope f cd A outer s H E).ex:=λb z=>absurd (show b∈([]:List Addr)from z) (21:);refine⟨⟨e0.mod,S.kind,rfl,rfl,Nat.le_refl _,λy z c h1 h2=>?_,λy hy=>?_,λy c _ h=>?_,λ_=>hd,Around.frames_deeper e0.frames,.inr ⟨rfl,rfl⟩,λb z=>absurd z (G b),e0.bs,e0.bsz,λb _ _=>G b,λb z=>absurd z (G b),e0.funs,e0.frf⟩,rfl,e0.bare,Un.kept L,⟨_,x.toInCall.ns,λi y v h1 h2 h3=>?_⟩,λy c h=>⟨_,x.cell y c h⟩,e0.hok.fresh (7:),λy c h=>?_,λp hp=>absurd (show p∈([]:List (8:))from hp) (21:),e0.hok.kept L,?_⟩
 .exact name_of_addr x.apart (PySem.mem_of_lookup h1) (PySem.mem_of_lookup h2)
 .have hy:scope.names.lookup y=some .cell\/scope.names.lookup y=some .free:=hy;rcases hy with hy | hy
  .exact Wt hy
  .exact absurd rfl (S.nofree _ (PySem.mem_of_lookup hy))
 .exact Nat.le_of_lt (x.above y c (PySem.mem_of_lookup h))
 .have hi:i<vs.length:=by
   unfold ZH at h2
   by_cases hi:i<vs.length
   .exact hi
   .rw [List.getElem?_append_right (by simpa using hi)]at h2;rw [List.getElem?_replicate]at h2;split at h2<;>cases h2
  have Y:vs[i]?=some v:=by
   unfold ZH at h2;rw [List.getElem?_append_left (by simpa using hi),List.getElem?_map]at h2;cases e:vs[i]? with
   | none=>rw [e]at h2;cases h2
   | some a=>rw [e]at h2;cases h2;rfl
  obtain⟨u,U,Z⟩:=r.get Y;have hp:ps[i]?=some y:=by
   rw [<-S.pre,List.getElem?_take_of_lt (6:)];exact h1
  have J:ps.Nodup:=by rw [<-S.pre];exact S.nd.sublist (List.take_sublist _ _)
  refine⟨u,Z,?_⟩;rcases S.par y (List.mem_of_getElem? hp)with k | k
  .exact .inl ⟨k,JT J hp U k⟩
  .obtain⟨c,e⟩:=Wt (n:=s.heap.objs.size+1) k;refine .inr ⟨.inl k,c,e,?_⟩;have q:=x.cell y c e;rw [JJ J hp U (by show scope.names.lookup y≠_;rw [k];decide)]at q;exact q
 .exact e0.hok.fresh (Nat.le_of_lt (x.above y c (PySem.mem_of_lookup h)))
 .unfold ZH;show _=N.length;rw [List.length_append,List.length_map,List.length_replicate];lia
theorem Gi{CX:CXT}{P:Program}{w:World}{K:Fg}{mg:Str->Option Value}{base:Heap}{k:Nat}{f:Addr}{name qual:Str}{params:Arguments}{body:List Stmt}{scope:Scope}{dV kV doc pm cdv ct oc:Value}{an od:Option Addr}
 {osl:Array (Option Value)} {N ps:List Str} {sp:Sp} (lk:K.lookup f=some ⟨oc,od,.func (PySem.W.fnOf name qual params body scope dV kV doc pm an cdv ct),osl⟩) (hcd:PySem.W.codeIn K cdv qual=true) (S:FnScope N ps scope)
 (len:∀vs H Q E,sp vs H Q E->vs.length=ps.length)
 (hbody:∀(A:Around)(outer:List Env)(s:Shared)(H:Hp)(vs:List V)(Q:VK)(E:XK),Room k (A.deeper (envOfC qual scope s.heap.objs.size f cdv))->sp vs H Q E->
  ∃t,PSs (Qn CX P w K mg base N qual scope f cdv A outer s H E) body t/\t { nx:=λ_ H'=>Q .non H',rt:=Q } (ZH N vs) H):
 FnOk P w K mg base CX (k+1) f (PySem.W.fnOf name qual params body scope dV kV doc pm an cdv ct) ps sp:=by
 refine⟨len,λA outer s H ab us vs Q E hr L hb r Z=>?_⟩;have hl:=len _ _ _ _ Z;have KX:K.In s.heap:=L.mod.kin.keeps λb o e=>(L.bs b o e).1;have aa:s.heap.NoLimit:=L.mod.nolimit.keeps λb o e=>(L.bs b o e).1;have U:∀y∈ps.zip us,scope.names.lookup y.1=some .local\/(scope.names.lookup y.1=some .cell/\((cellsFrom (23:) scope.names []).lookup y.1).isSome=true):=λ⟨n,v⟩ hy=>by
  rcases S.par n (List.of_mem_zip hy).1 with q | q
  .exact .inl q
  .exact .inr ⟨q,PySem.W.cellsFrom_some _ _ _ (.inl q)⟩
 refine codeAny_call_function hr.depth (KX _ _ lk) rfl S.co S.gen rfl (PySem.W.codeRec_of KX hcd) (hb _ _ _ _ ?_);refine wpAny_newFunctionEnv_cells S.kind U λenv he s1 x=>?_;subst he;refine⟨aa.keeps x.toInCall.keep,codeAny_func ?_⟩;obtain⟨t,ht,hq⟩:=hbody A outer s H vs Q E (hr.deeper _) Z;have I:Inv (Qn CX P w K mg base N qual scope f cdv A outer s H E) [] (ZH N vs) H s1:=GV S hr.hd L hl r x;refine wpAny_mono (ht [] s1 (ZH N vs) H _ I hq) (λfl s' G=>?_) λe s' G=>G;have fin:∀{Y:St}{H':Hp}{v:V}{u:Value},Inv (Qn CX P w K mg base N qual scope f cdv A outer s H E) [] Y H' s'->RelV v u->Q v H'->CE outer P w H s Q u s':=
  λ{Y H' v u} J rv q=>⟨v,H',J.os,J.bare,J.base,J.hok,rv,q⟩
 cases fl with
 | ret u=>
  obtain⟨v,Y,H',J,rv,q⟩:=G;exact fin J rv q
 | next=>
  obtain⟨Y,H',J,q⟩:=G;exact fin (v:=V.non) (u:=Value.none) J rfl q
 | brk=>
  obtain⟨_,_,_,q⟩:=G;exact False.elim q
 | cont=>
  obtain⟨_,_,_,q⟩:=G;exact False.elim q
end L2
namespace L2
open PySem PySem.Spec PyProof.Rows
section
variable{X:Cx}{x:Str}{p pos:Pos}{e:Expr}{es:List Expr}{t:TA}{id T:String}{r:List V->Hp->VK->Prop}
def tCB(r:List V->Hp->VK->Prop)(t:TA):TE:=λσ H Q=>t σ H λvs H1=>r vs H1 Q
theorem Qq(hc:QR X (.builtin id) r)(hg:Gl X x)(hm:X.mg x=none)(hv:bootBuiltins x=some (.builtin id))(ha:PA X (e::es) t)(hn:x≠"__name__":=by decide)(hdb:(22:)=false:=by decide)
 (he:starEach (e::es) X.env=(46:)::starEach es X.env:=by rfl) (hpl:(39:).any (·.1)=false:=by rfl):PE X (50:) (tCB r t):=by
 intro pins s σ H Q I h;refine wpAny_Call_Name_kw (Y1 I hg hm hv ?_ hn hdb);exact PyProof.Rows.callWith_builtin1 (thn (71:) λG J ⟨vs,H1,L,U,Y⟩=>hc pins J σ H1 vs G Q L U Y) he hpl
theorem QI(hc:QR X (.type T) r)(hg:Gl X x)(hm:X.mg x=none)(hv:bootBuiltins x=some (.type T))(ha:PA X (e::es) t)(hn:x≠"__name__":=by decide)(hdb:(22:)=false:=by decide)
 (he:starEach (e::es) X.env=(46:)::starEach es X.env:=by rfl) (hpl:(39:).any (·.1)=false:=by rfl):PE X (50:) (tCB r t):=by
 intro pins s σ H Q I h;refine wpAny_Call_Name_kw (Y1 I hg hm hv ?_ hn hdb);exact PyProof.Rows.callWith_type1 (thn (71:) λG J ⟨vs,H1,L,U,Y⟩=>hc pins J σ H1 vs G Q L U Y) he hpl
end
end L2
namespace HT
open PySem PyProof.Rows
def O9:List Int->List Int->Bool
 | [],[]=>false
 | [],_::_=>true
 | _::_,[]=>false
 | x::xs,y::ys=>if x=y then O9 xs ys else decide (x<y)
section
open PySem.SeqAt
open PySem.AutoSeq1 (wpAny_loadPart')
open PySem.MeetsSeq PySem.MeetsSeq2 PySem.MeetsSeq3
end
section
variable{prog:Program}{w:World}{A:Around}{E:Value->Shared->Prop}{s:Shared}
theorem cat_tup{t b:Addr}{vs ws:List Value}{Q:Value->Shared->Prop}(ht:IsTup s.heap t vs.toArray)(hb:IsTup s.heap b ws.toArray)(hv:vs≠[])
 (h1:ws=[]->Q (.ref t) s) (h2:ws≠[]->Q (.ref s.heap.objs.size) { s with heap:=s.heap.push { cls:=.type "tuple",data:=.seq (vs++ws).toArray } })
 (hsz:vs.length+ws.length<=sizeLine):wpAny (27:) A (binaryOp .Add (.ref t) (.ref b)) Q E s:=by
 obtain⟨⟨cls,dd,data,sl⟩,J,hc,n,hd⟩:=id ht;obtain⟨⟨ac,U,ab,Y⟩,G,Z,n2,aa⟩:=id hb;simp only at hc hd Z aa;subst hc hd Z aa;have e:vs.toArray++ws.toArray=(vs++ws).toArray:=by simp
 by_cases L:ws=[]
 .exact concat_meets ⟨_,J,rfl⟩ ⟨_,G,rfl⟩ noFill_tuple_add seq_tuple_add PySem.F.slot_tuple_add PySem.F.entry_tuple_add (PySem.F.args_tuple_add_2 _ _)
   (tuple_addW1 t b vs.toArray ws.toArray n n2 dd U sl Y (by simpa using hv) (by simp [L])) ⟨J,G,h1 L⟩
 .refine concat_meets ⟨_,J,rfl⟩ ⟨_,G,rfl⟩ noFill_tuple_add seq_tuple_add PySem.F.slot_tuple_add PySem.F.entry_tuple_add (PySem.F.args_tuple_add_2 _ _)
   (tuple_addW2 t b vs.toArray ws.toArray n n2 dd U sl Y (by simpa using hv) (by simpa using L) (by rw [List.size_toArray,List.size_toArray];exact hsz)) ⟨J,G,?_⟩
  rw [e];exact h2 L
def sIx(n d:Nat):Option Int->Nat
 | none=>d
 | some v=>if v<0 then(v+(n:Int)).toNat else min v.toNat n
theorem sIx_none(n d:Nat):sIx n d none=d:=rfl
theorem sIx_nat(n d k:Nat):sIx n d (some (k:Int))=min k n:=by
 show(if(k:Int)<0 then((k:Int)+(n:Int)).toNat else min (k:Int).toNat n)=min k n;rw [if_neg (6:),Int.toNat_natCast]
theorem Rk(n d:Nat)(hd:d<=n)(o:Option Int):sIx n d o<=n:=by
 cases o with
 | none=>exact hd
 | some v=>
  show(if v<0 then(v+(n:Int)).toNat else min v.toNat n)<=n
  by_cases G:v<0
  .rw [if_pos G];lia
  .rw [if_neg G];exact Nat.min_le_right _ _
theorem Gg(v:Int)(n d:Nat):(if v<0 then max (v+(n:Int)) 0 else min v (n:Int))=((sIx n d (some v):Nat):Int):=by
 show(if v<0 then max (v+(n:Int)) 0 else min v (n:Int))=(((if v<0 then(v+(n:Int)).toNat else min v.toNat n):Nat):Int)
 by_cases G:v<0
 .simp only [if_pos G];lia
 .simp only [if_neg G];lia
theorem W5(lo hi:Option Int)(n:Nat):Builtin.Slice.sliceAdjust lo hi 1 (n:Int)=(((sIx n 0 lo:Nat):Int),((sIx n n hi:Nat):Int)):=by
 have h1:¬((1:Int)<0):=by lia
 unfold Builtin.Slice.sliceAdjust;simp only [h1,if_false];refine Prod.ext ?_ ?_
 .cases lo with
  | none=>rfl
  | some v=>exact Gg v n 0
 .cases hi with
  | none=>rfl
  | some v=>exact Gg v n n
theorem Vv(i j:Nat):Builtin.Slice.slicePlaces (i:Int) (j:Int) 1=j-i:=by
 unfold Builtin.Slice.slicePlaces;have h1:(1:Int)>0:=by lia
 simp only [h1,if_true,Int.ediv_one];split<;>lia
theorem Jd{v:Value}{o:Option Int}{Q:Option Int->Shared->Prop}(p:IsPart v o)(h:Q o s):wpAny (27:) A (Builtin.Slice.slicePartIndex v) Q E s:=by
 cases p with
 | none=>exact slicePart_none h
 | int i t=>exact slicePart_int h
theorem Y0{sl:Addr}{vl vu:Value}{lo hi:Option Int}{n:Nat}{Q:Int×Int×Nat->Shared->Prop}(hs:s.heap.IsSliceOf sl vl vu .none)(pl:IsPart vl lo)(pu:IsPart vu hi)
 (h:Q (((sIx n 0 lo:Nat):Int),1,sIx n n hi-sIx n 0 lo) s):wpAny (27:) A (Builtin.Slice.sliceApplied (.ref sl) (pure (n:Int))) Q E s:=by
 obtain⟨os,G,L,J⟩:=id hs;unfold Builtin.Slice.sliceApplied Builtin.Slice.sliceFields;refine wpAny_bind (wpAny_bind (wpAny_field G J (x:=vl) rfl (wpAny_bind (wpAny_field G J (x:=vu) rfl (wpAny_bind (wpAny_field G J (x:=.none) rfl (66:)))))));refine wpAny_bind (slicePart_none ?_);show wpAny _ _ (if((1:Int)==0)=true then _ else _) _ _ s;rw [if_neg (18:)];refine wpAny_bind (Jd pl (wpAny_bind (Jd pu (wpAny_bind (66:)))));show wpAny _ _ (match Builtin.Slice.sliceAdjust lo hi 1 (n:Int)with | (lo,hi)=>pure (lo,(1:Int),Builtin.Slice.slicePlaces lo hi 1)) _ _ s;rw [W5 lo hi n];show wpAny _ _ (pure (((sIx n 0 lo:Nat):Int),(1:Int),Builtin.Slice.slicePlaces ((sIx n 0 lo:Nat):Int) ((sIx n n hi:Nat):Int) 1)) _ _ s;rw [Vv];exact wpAny_pure h
theorem Ny(xs:Array Value)(i k:Nat):((List.range k).filterMap λ(m:Nat)=>xs[((i:Int)+(m:Int)*1).toNat]?).toArray=((xs.toList.drop i).take k).toArray:=by
 have e:(λ(m:Nat)=>xs[((i:Int)+(m:Int)*1).toNat]?)=λm=>xs[i+m]?:=by
  funext m
  have:((i:Int)+(m:Int)*1).toNat=i+m:=by lia
  rw [this]
 rw [e];have:=pick_run xs i k;rw [List.filterMap_map]at this;have e2:((λx=>xs[x]?)∘λx=>i+x)=λm=>xs[i+m]?:=rfl;rw [e2]at this;rw [this]
theorem getItem_tuple_cut{t sl:Addr}{items:Array Value}{vl vu:Value}{lo hi:Option Int}{Q:Value->Shared->Prop}(ht:IsTup s.heap t items)(hs:s.heap.IsSliceOf sl vl vu .none)(pl:IsPart vl lo)(pu:IsPart vu hi)
 (hw:¬(sIx items.size 0 lo=0/\sIx items.size items.size hi=items.size))
 (h:Q (.ref s.heap.objs.size) { s with heap:=s.heap.push { cls:=.type "tuple",data:=.seq (64:).toArray } })
 (hsz:items.size<=sizeLine):wpAny (27:) A (getItem (.ref t) (.ref sl)) Q E s:=by
 have G:sizeOk (.seq (64:).toArray):=by
  show(64:).toArray.size<=sizeLine;rw [List.size_toArray,List.length_take,List.length_drop,Array.length_toList];lia
 have hj:sIx items.size items.size hi<=items.size:=Rk _ _ (7:) hi;obtain⟨os,J,L,Z⟩:=id hs;have U:s.TypeIs (.ref sl) "slice":=⟨os,J,L⟩;unfold getItem
 try with_reducible refine wpAny_holding ?_
 first | refine wpAny_bind (66:) | skip
 refine wpAny_bind (wpAny_sequenceKey ht.typeIs (18:) ?_);refine wpAny_bind (wpAny_callSpecial?_slot (name:=Str.ofString "__getitem__") ht.typeIs PyProof.Rows.slot_tuple_getitem
  (wpAny_call_entry PyProof.Rows.slot_tuple_getitem ht.typeIs entry_tuple_getitem ?_ (args_tuple_getitem _ _)))
 show wpAny _ _ (Builtin.Tuple.tupleItemsOf (.ref t)>>=_) _ _ s;refine wpAny_bind (tupleItemsOf_ ht ?_);refine wpAny_bind (wpAny_typeOf U ?_);rw [if_pos (18:)];refine wpAny_bind (Y0 hs pl pu ?_);have Y:¬((((sIx items.size 0 lo:Nat):Int)==0&&(1:Int)==1&&(sIx items.size items.size hi-sIx items.size 0 lo)==items.size)=true):=by
  intro q;rw [Bool.and_eq_true,Bool.and_eq_true]at q;have q1:((sIx items.size 0 lo:Nat):Int)=0:=eq_of_beq q.1.1;have q2:sIx items.size items.size hi-sIx items.size 0 lo=items.size:=eq_of_beq q.2;exact hw ⟨by lia,by lia⟩
 show wpAny _ _ (if(((sIx items.size 0 lo:Nat):Int)==0&&(1:Int)==1&&(sIx items.size items.size hi-sIx items.size 0 lo)==items.size)=true then _ else _) _ _ s;rw [if_neg Y,Ny]
 first
  | exact wpAny_bind (m:=Builtin.Tuple.tupleExact _) (wpAny_newObj_type (wpAny_pure ⟨_,rfl,wpAny_pure h⟩) G)
  | exact wpAny_bind (m:=Builtin.Tuple.tupleExact _) (wpAny_newObj_type (wpAny_bind (wpAny_pure (wpAny_pure ⟨_,rfl,wpAny_pure h⟩))) G)
  | exact wpAny_bind (wpAny_bind (m:=Builtin.Tuple.tupleExact _) (wpAny_newObj_type (wpAny_pure (wpAny_pure ⟨_,rfl,wpAny_pure h⟩)) G))
  | exact wpAny_bind (wpAny_bind (m:=Builtin.Tuple.tupleExact _) (wpAny_newObj_type (wpAny_pure ⟨_,rfl,wpAny_pure h⟩) G))
end
end HT
namespace L2
open PySem PySem.Spec PyProof.Rows
abbrev TO:=St->Hp->(Option Int->Hp->Prop)->Prop
def PO(X:Cx)(e:Option Expr)(t:TO):Prop:=
 ∀(pins:List (8:))(s:Shared)(σ:St)(H:Hp)(Q:Option Int->Hp->Prop),Inv X pins σ H s->t σ H Q->
  wpAny (3:) X.A (evalPart e X.env) (λu s'=>∃o H',Inv X pins σ H' s'/\IsPart u o/\Q o H') X.xe s
def OM:TO:=λ_ H Q=>Q none H
def SX(t:TE):TO:=λσ H Q=>t σ H λx H1=>∃i,x=.int i/\Q (some i) H1
section
variable{X:Cx}{e:Expr}{te:TE}{lo hi:Option Expr}{tl th:TO}{pos p2:Pos}
theorem Xs:PO X none OM:=by
 intro pins s σ H Q I h;rw [evalPart_none];exact wpAny_pure ⟨none,H,I,.none,h⟩
theorem XB(h:PE X e te):PO X (some e) (SX te):=by
 intro pins s σ H Q I G;rw [evalPart_some];refine thn (h pins s σ H _ I G) λu Y ⟨x,H1,J,L,U⟩=>?_;obtain⟨i,rfl,q⟩:=U;obtain⟨t,rfl⟩:=L;exact⟨some i,H1,J,.int i t,q⟩
def SlR(X:Cx)(r:V->Option Int->Option Int->Hp->VK->Prop):Prop:=
 ∀(pins:List (8:))(s:Shared)(σ:St)(H:Hp)(x:V)(v vl vu:Value)(lo hi:Option Int)(sl:Addr)(Q:VK),Inv X pins σ H s->RelV x v->s.heap.IsSliceOf sl vl vu .none->IsPart vl lo->IsPart vu hi->r x lo hi H Q->
  ∃T id,typeLookup (.type T) "__getitem__"=pure (some (.builtin id))/\s.TypeIs v T/\wpAny (3:) X.A (getItem v (.ref sl)) (74:) X.xe s
def tSl(r:V->Option Int->Option Int->Hp->VK->Prop)(te:TE)(tl th:TO):TE:=λσ H Q=>te σ H λx H1=>tl σ H1 λl H2=>th σ H2 λu H3=>r x l u H3 Q
theorem UV{r:V->Option Int->Option Int->Hp->VK->Prop}(hr:SlR X r)(he:PE X e te)(hl:PO X lo tl)(hu:PO X hi th):PE X (.Subscript e (.Slice lo hi none p2) pos) (tSl r te tl th):=by
 intro pins s σ H Q I h;refine Subscript_ (thn (84:) λv Y ⟨x,H1,Z,r1,q1⟩=>?_);refine wpAny_Slice (thn (hl pins Y σ H1 _ Z q1) λJ s2 ⟨l,H2,I2,pl,q2⟩=>thn (hu pins s2 σ H2 _ I2 q2) λL G ⟨u,U,I3,pu,q3⟩=>?_);rw [evalPart_none];refine wpAny_pure ?_;have I4:Inv X pins σ U { G with heap:=G.heap.push { cls:=.type "slice",data:=.fields #[J,L,.none] } }:=I3.kept (t':=G.toks) λb ob q=>Heap.get?_push_of_some _ q;obtain⟨T,id,hT,ht,hg⟩:=hr pins { G with heap:=G.heap.push { cls:=.type "slice",data:=.fields #[J,L,.none] } } σ U x v J L l u G.heap.objs.size Q I4 r1 (Heap.IsSliceOf.new ..) pl pu q3;show wpAny (3:) X.A (subscriptTail e (.Slice lo hi none p2) v (.ref G.heap.objs.size)) (74:) X.xe { G with heap:=G.heap.push { cls:=.type "slice",data:=.fields #[J,L,.none] } };exact tail_any (ops:=[.ref G.heap.objs.size,v]) ht hT hg (by with_unfolding_all rfl)
def cutV(xs:List V)(lo hi:Option Int):List V:=(xs.drop (HT.sIx xs.length 0 lo)).take (HT.sIx xs.length xs.length hi-HT.sIx xs.length 0 lo)
theorem Ux(xs:List V)(lo hi:Option Int):(cutV xs lo hi).length<=xs.length:=by
 unfold cutV;rw [List.length_take,List.length_drop];lia
def Nu(K:Fg):V->Option Int->Option Int->Hp->VK->Prop:=λx lo hi H Q=>∃a xs,x=.ref a/\SqT K H a xs/\
 ¬(HT.sIx xs.length 0 lo=0/\HT.sIx xs.length xs.length hi=xs.length)/\∀p,H p=none->Q (.ref p) (upd H p (.tup (cutV xs lo hi)))
theorem Nj:SlR X (Nu X.K):=by
 intro pins s σ H x v vl vu lo hi sl Q I U Y pl Z h;obtain⟨a,xs,rfl,hx,hw,q⟩:=h;cases U;obtain⟨its,r,J,L⟩:=I.tuple hx;have G:its.toArray.size=xs.length:=by rw [List.size_toArray];exact r.length.symm
 refine⟨"tuple",_,PyProof.Rows.slot_tuple_getitem.lookup,J.typeIs,?_⟩;refine HT.getItem_tuple_cut J Y pl Z (by rw [G];exact hw) ?_ (by rw [G];exact L);rw [G];refine⟨.ref s.heap.objs.size,_,I.laid (t':=s.toks) (o:=.tup (cutV xs lo hi)) (λb ob q=>Heap.get?_push_of_some _ q) (7:) ?_,rfl,q _ (I.hok.fresh (7:))⟩;exact⟨Nat.le_trans (Ux xs lo hi) L,_,(r.drop (HT.sIx xs.length 0 lo)).take (HT.sIx xs.length xs.length hi-HT.sIx xs.length 0 lo),IsTup.new _ _⟩
def Sy(K:Fg):R2:=λx y H Q=>∃a b xs ys,x=.ref a/\y=.ref b/\SqT K H a xs/\SqT K H b ys/\xs≠[]/\xs.length+ys.length<=sizeLine/\
 (ys=[]->Q (.ref a) H)/\(ys≠[]->∀p,H p=none->Q (.ref p) (upd H p (.tup (xs++ys))))
theorem Vals.nil_iff{xs:List V}{us:List Value}(r:Vals xs us):us=[]↔xs=[]:=by
 cases r with
 | nil=>simp
 | cons _ _=>simp
theorem Oy:OpR X (binaryOp .Add) (Sy X.K):=by
 intro pins s σ H x y v u Q I U Y h;obtain⟨a,b,xs,ys,rfl,rfl,Z,hb,hx,L,q1,q2⟩:=h;cases U;cases Y;obtain⟨its,J,p1,_⟩:=I.tuple Z;obtain⟨aa,G,p2,_⟩:=I.tuple hb;refine HT.cat_tup p1 p2 (λz=>hx (J.nil_iff.mp z)) (λz=>⟨.ref a,H,I,rfl,q1 (G.nil_iff.mp z)⟩) (λz=>?_) (by rw [<-J.length,<-G.length];exact L);refine⟨.ref s.heap.objs.size,_,I.laid (t':=s.toks) (o:=.tup (xs++ys)) (λb ob q=>Heap.get?_push_of_some _ q) (7:) ?_,rfl,q2 (λw=>z (G.nil_iff.mpr w)) _ (I.hok.fresh (7:))⟩;exact⟨by rw [List.length_append];exact L,_,J.append G,IsTup.new _ _⟩
end
end L2
namespace L2
open PySem PySem.Spec PyProof.Rows
def ixN(n:Nat)(i:Int):Option Nat:=if 0<=i then(if i<n then some i.toNat else none)else if-(n:Int)<=i then some (i+n).toNat else none
def atI{α:Type}(xs:List α)(i:Int):Option α:=(ixN xs.length i).bind λj=>xs[j]?
theorem VS{n:Nat}{i:Int}{j:Nat}(h:ixN n i=some j):seqIndex? i n=some j/\j<n/\-(n:Int)<=i/\i<n:=by
 unfold ixN at h
 by_cases G:0<=i
 .rw [if_pos G]at h
  by_cases h1:i<n
  .rw [if_pos h1]at h;have e:i.toNat=j:=Option.some.inj h;exact⟨by rw [seqIndex_of G h1,e],by lia,by lia,h1⟩
  .rw [if_neg h1]at h;cases h
 .rw [if_neg G]at h
  by_cases h1:-(n:Int)<=i
  .rw [if_pos h1]at h;have e:(i+n).toNat=j:=Option.some.inj h;exact⟨by rw [seqIndex_neg (6:) h1,e],by lia,h1,by lia⟩
  .rw [if_neg h1]at h;cases h
theorem X5{α:Type}{xs:List α}{i:Int}{v:α}(h:atI xs i=some v):∃j,seqIndex? i xs.length=some j/\xs[j]?=some v/\j<xs.length/\-(xs.length:Int)<=i/\i<xs.length:=by
 unfold atI at h;cases e:ixN xs.length i with
 | none=>rw [e]at h;cases h
 | some j=>
  rw [e]at h;obtain⟨h1,h2,G,J⟩:=VS e;exact⟨j,h1,h,h2,G,J⟩
theorem Qo{α:Type}{xs:List α}{j:Nat}{v:α}(h:xs[j]?=some v):atI xs (j:Int)=some v:=by
 have G:j<xs.length:=(List.getElem?_eq_some_iff.mp h).1;have e:ixN xs.length (j:Int)=some j:=by
  unfold ixN;rw [if_pos (6:),if_pos (6:)];simp
 unfold atI;rw [e];exact h
def Ga(b:Expr):Prop:=∀o i,subscripted b false o i=operate [o,i] (getItem o i)
def IxR(X:Cx)(r:R2):Prop:=
 ∀(value slice:Expr)(pins:List (8:))(s:Shared)(σ:St)(H:Hp)(x y:V)(v u:Value)(Q:VK),Inv X pins σ H s->RelV x v->RelV y u->r x y H Q->
  subscripted slice false v u=operate [v,u] (getItem v u)->wpAny (3:) X.A (subscriptTail value slice v u) (74:) X.xe s
def MtR(X:Cx)(id:String)(r:V->List V->Hp->VK->Prop):Prop:=
 ∀(pins:List (8:))(s:Shared)(σ:St)(H:Hp)(x:V)(xs:List V)(v:Value)(us:List Value)(Q:VK),Inv X pins σ H s->RelV x v->Vals xs us->r x xs H Q->
  wpAny (3:) X.A (call (.builtin id) (v::us)) (74:) X.xe s
section
variable{X:Cx}{a b:Expr}{ta tb:TE}{pos:Pos}
theorem Qk{r:R2}(hr:IxR X r)(ha:PE X a ta)(hb:PE X b tb)(hs:Ga b):PE X (.Subscript a b pos) (tOp r ta tb):=by
 intro pins s σ H Q I h;exact Subscript_ (Rl ha hb I h λv u G x y H2 J L U q=>hr a b pins G σ H2 x y v u Q J L U q (hs _ _))
def PL(K:Fg):R2:=λx y H Q=>∃p xs i v,x=.ref p/\y=.int i/\SqL K H p xs/\atI xs i=some v/\Q v H
def Sn(K:Fg):R2:=λx y H Q=>∃p xs i v,x=.ref p/\y=.int i/\SqT K H p xs/\atI xs i=some v/\Q v H
def S4:R2:=λx y H Q=>∃z i c,x=.str z/\y=.int i/\z.length<=sizeLine/\atI z.cps.toList i=some c/\Q (.str ⟨#[c]⟩) H
theorem QP:IxR X (PL X.K):=by
 intro value Z pins s σ H x y v u Q I rx ry h J;obtain⟨p,xs,i,z,rfl,rfl,hq,he,q⟩:=h;cases rx;obtain⟨t,rfl⟩:=ry;obtain⟨its,r,pl,hz⟩:=I.list hq;obtain⟨j,h1,h2,h3,h4,h5⟩:=X5 he;obtain⟨w,L,U⟩:=r.get h2;have hl:=r.length;have hn:=Yv;have fin:EP X pins σ Q w s:=⟨z,H,I,U,q⟩
 by_cases Y:0<=i
 .have G:i.toNat=j:=by
   rw [seqIndex_of Y h5]at h1;exact Option.some.inj h1
  exact item_listR pl.isList Y (6:) (by rw [G];simpa using L) fin J
 .have G:(i+(its.toArray.size:Int)).toNat=j:=by
   rw [seqIndex_neg (6:) h4]at h1;rw [List.size_toArray,<-hl];exact Option.some.inj h1
  exact subscriptTail_builtinR (x:=w) pl.isList.typeIs slot_list_getitem.lookup
   (wpAny_getItem_list_neg (Q:=λr s'=>r=w/\EP X pins σ Q r s') pl.isList (6:) (by rw [List.size_toArray]<;>lia) (6:) (by rw [G];simpa using L) ⟨rfl,fin⟩) J
theorem Qj:IxR X (Sn X.K):=by
 intro value J pins s σ H x y v u Q I L U h Y;obtain⟨p,xs,i,z,rfl,rfl,Z,he,q⟩:=h;cases L;obtain⟨t,rfl⟩:=U;obtain⟨its,r,pl,hz⟩:=I.tuple Z;obtain⟨j,h1,h2,h3,h4,h5⟩:=X5 he;obtain⟨w,ew,G⟩:=r.get h2;have hl:=r.length;have hn:=Yv;have fin:EP X pins σ Q w s:=⟨z,H,I,G,q⟩;exact subscriptTail_builtinR (x:=w) pl.typeIs slot_tuple_getitem.lookup
  (getItem_tuple (j:=j) (Q:=λr s'=>r=w/\EP X pins σ Q r s') pl (6:) (6:) (by rw [List.size_toArray,<-hl];exact h1) (by simpa using ew) ⟨rfl,fin⟩) Y
theorem Md:IxR X S4:=by
 intro value G pins s σ H x y v u Q I J L h U;obtain⟨z,i,c,rfl,rfl,hz,Y,q⟩:=h;obtain⟨t,rfl⟩:=J;obtain⟨t',rfl⟩:=L;obtain⟨j,h1,h2,h3,Z,h5⟩:=X5 Y;have hl:z.cps.toList.length=z.length:=by simp [Str.length]
 rw [hl]at h1 Z h5;have hn:=Yv;exact tail_any (typeIs_str s z t) slot_str_getitem.lookup (getItem_str (c:=c) (by
  have e1:decide (i< -(2^63:Int))=false:=decide_eq_false (6:);have e2:decide (i>=2^63)=false:=decide_eq_false (6:);rw [e1,e2,Bool.or_false]) (by rw [h1];simpa using h2) ⟨.str ⟨#[c]⟩,H,I.tok _,(51:),q⟩) U
theorem Vu(its:List Value)(n j:Nat)(u:Value):Obj.mapSeq (·.setIfInBounds j u) { cls:=.type "list",data:=.seq its.toArray n }={ cls:=.type "list",data:=.seq (its.set j u).toArray n }:=by
 simp [Obj.mapSeq]
theorem Inv.lst{pins:List (8:)}{σ:St}{H:Hp}{s:Shared}{p:Addr}{xs:List V}(I:Inv X pins σ H s)(h:H p=some (.lst xs)):
 ∃(its:List Value)(n:Nat),Vals xs its/\s.heap.get? p=some { cls:=.type "list",data:=.seq its.toArray n }/\xs.length<=sizeLine:=by
 obtain⟨z,its,n,r,e⟩:=I.hok p _ h;exact⟨its,n,r,e,z⟩
theorem Inv.lstUpd{pins:List (8:)}{σ:St}{H:Hp}{s:Shared}{p:Addr}{xs ys:List V}{its its':List Value}{n n':Nat}{f:Obj->Obj}(I:Inv X pins σ H s)(h:H p=some (.lst xs))
 (ho:s.heap.get? p=some { cls:=.type "list",data:=.seq its.toArray n }) (hf:f { cls:=.type "list",data:=.seq its.toArray n }={ cls:=.type "list",data:=.seq its'.toArray n' }) (r:Vals ys its') (hz:ys.length<=sizeLine) (t:Nat):
 Inv X pins σ (upd H p (.lst ys)) { s with heap:=s.heap.update p f,toks:=t }:=by
 have e:(s.heap.update p f).get? p=some { cls:=.type "list",data:=.seq its'.toArray n' }:=by
  rw [Heap.get?_update_self f ho (by rw [hf]<;>rfl),hf]
 refine I.write (x:=p) (e:=p) (by rw [h];trivial) (.inl rfl) (λb u G q=>(Heap.get?_update_other _ _ (Ne.symm G)).trans q) ⟨_,e⟩ ?_;exact⟨hz,its',n',r,e⟩
def Tz:V->V->V->Hp->(Hp->Prop)->Prop:=λo i v H Q=>∃p xs k j,o=.ref p/\i=.int k/\H p=some (.lst xs)/\ixN xs.length k=some j/\Q (upd H p (.lst (xs.set j v)))
theorem L1:Sm X Tz:=by
 intro pins s σ H o i v ov iv u Q I ro ri rv h;obtain⟨p,xs,k,j,rfl,rfl,hp,hj,q⟩:=h;cases ro;obtain⟨t,rfl⟩:=ri;obtain⟨its,n,r,G,hz⟩:=I.lst hp;obtain⟨h1,h2,U,Y⟩:=VS hj;have J:=r.length;have hn:=Yv;have Z:Inv X pins σ (upd H p (.lst (xs.set j v))) { s with heap:=s.heap.update p (Obj.mapSeq (·.setIfInBounds j u)) }:=
  I.lstUpd hp G (Vu its n j u) (r.set rv j) (by rw [List.length_set];exact hz) s.toks
 by_cases h0:0<=k
 .have L:k.toNat=j:=by
   rw [seqIndex_of h0 Y]at h1;exact Option.some.inj h1
  exact PySem.W.ki_setAt G h0 (6:) (by rw [List.size_toArray,<-J];exact Y) (by rw [L];exact⟨_,Z,q⟩)
 .have L:(k+(its.toArray.size:Int)).toNat=j:=by
   rw [seqIndex_neg (6:) U]at h1;rw [List.size_toArray,<-J];exact Option.some.inj h1
  exact PySem.W.ki_setBack G (6:) (by rw [List.size_toArray,<-J];exact U) (6:) (by rw [L];exact⟨_,Z,q⟩)
theorem Wa(lo hi:Option Int)(n:Nat):(sliceBounds lo hi none n).1=((HT.sIx n 0 lo:Nat):Int)/\(sliceBounds lo hi none n).2.1=((HT.sIx n n hi:Nat):Int)/\(sliceBounds lo hi none n).2.2=1:=by
 refine⟨?_,?_,rfl⟩
 .cases lo with
  | none=>simp [sliceBounds,HT.sIx]
  | some i=>
   simp only [sliceBounds,HT.sIx,Option.getD_none,show(1:Int)>0 by decide,if_true]
   by_cases h:i<0
   .simp only [h,if_true]<;>lia
   .simp only [h,if_false]<;>lia
 .cases hi with
  | none=>simp [sliceBounds,HT.sIx]
  | some i=>
   simp only [sliceBounds,HT.sIx,Option.getD_none,show(1:Int)>0 by decide,if_true]
   by_cases h:i<0
   .simp only [h,if_true]<;>lia
   .simp only [h,if_false]<;>lia
theorem JD(its:List Value)(lo hi:Option Int):slicePick its.toArray lo hi none=((its.drop (HT.sIx its.length 0 lo)).take (HT.sIx its.length its.length hi-HT.sIx its.length 0 lo)).toArray:=by
 obtain⟨h1,h2,G⟩:=Wa lo hi its.toArray.size;unfold slicePick;rw [h1,h2,G];simp only [sliceRange_one,pick_run,List.size_toArray]<;>rfl
def Rp(K:Fg):V->Option Int->Option Int->Hp->VK->Prop:=λx lo hi H Q=>∃a xs,x=.ref a/\SqL K H a xs/\∀p,H p=none->Q (.ref p) (upd H p (.lst (cutV xs lo hi)))
theorem XU:SlR X (Rp X.K):=by
 intro pins s σ H x v vl vu lo hi sl Q I L U pl Y h;obtain⟨a,xs,rfl,Z,q⟩:=h;cases L;obtain⟨its,r,J,hz⟩:=I.list Z;have G:=r.length;refine⟨"list",_,slot_list_getitem.lookup,J.isList.typeIs,?_⟩;refine wpAny_getItem_list_slice J.isList U pl Y .none (21:) ?_ (by rw [List.size_toArray]<;>lia);rw [JD,<-G];refine⟨.ref s.heap.objs.size,_,I.laid (t':=s.toks) (o:=.lst (cutV xs lo hi)) (λb ob q=>Heap.get?_push_of_some _ q) (7:) ?_,rfl,q _ (I.hok.fresh (7:))⟩;exact⟨Nat.le_trans (Ux xs lo hi) hz,_,0,(r.drop (HT.sIx xs.length 0 lo)).take (HT.sIx xs.length xs.length hi-HT.sIx xs.length 0 lo),Heap.get?_push_size _ rfl⟩
def Ut:V->Bool
 | .non=>true
 | .bl _=>true
 | .int _=>true
 | .str _=>true
 | _=>false
def eqV:V->V->Bool
 | .non,.non=>true
 | .bl a,.bl b=>a==b
 | .bl a,.int b=>(if a then 1 else 0)==b
 | .int a,.bl b=>a==(if b then 1 else 0)
 | .int a,.int b=>a==b
 | .str a,.str b=>a==b
 | _,_=>false
theorem Pz{A:Around}{s:Shared}{y x:V}{u v:Value}(ry:RelV y u)(rx:RelV x v)(fy:Ut y=true)(fx:Ut x=true):SeqAt.EqAt A s u v (eqV y x):=by
 cases y with
 | non=>
  cases ry;cases x with
  | non=>cases rx;exact SeqAt.EqAt.same _
  | bl b=>cases rx;exact SeqAt.EqAt.none_bool b
  | int b=>obtain⟨t,rfl⟩:=rx;exact SeqAt.EqAt.none_int b t
  | str b=>obtain⟨t,rfl⟩:=rx;exact SeqAt.EqAt.none_str b t
  | _=>exact absurd (show false=true from fx) Bool.false_ne_true
 | bl a=>
  cases ry;cases x with
  | non=>cases rx;exact SeqAt.EqAt.bool_none a
  | bl b=>cases rx;exact SeqAt.EqAt.bool_bool a b
  | int b=>obtain⟨t,rfl⟩:=rx;exact SeqAt.EqAt.bool_int a b t
  | str b=>obtain⟨t,rfl⟩:=rx;exact SeqAt.EqAt.bool_str a b t
  | _=>exact absurd (show false=true from fx) Bool.false_ne_true
 | int a=>
  obtain⟨G,rfl⟩:=ry;cases x with
  | non=>cases rx;exact SeqAt.EqAt.int_none a G
  | bl b=>cases rx;exact SeqAt.EqAt.int_bool a G b
  | int b=>obtain⟨t,rfl⟩:=rx;exact SeqAt.EqAt.int_int a G b t
  | str b=>obtain⟨t,rfl⟩:=rx;exact SeqAt.EqAt.int_str a G b t
  | _=>exact absurd (show false=true from fx) Bool.false_ne_true
 | str a=>
  obtain⟨G,rfl⟩:=ry;cases x with
  | non=>cases rx;exact SeqAt.EqAt.str_none a G
  | bl b=>cases rx;exact SeqAt.EqAt.str_bool a G b
  | int b=>obtain⟨t,rfl⟩:=rx;exact SeqAt.EqAt.str_int a G b t
  | str b=>obtain⟨t,rfl⟩:=rx;exact SeqAt.EqAt.str_str a G b t
  | _=>exact absurd (show false=true from fx) Bool.false_ne_true
 | _=>exact absurd (show false=true from fy) Bool.false_ne_true
def eqU(x:V)(u:Value):Bool:=match u with
 | .none=>eqV .non x
 | .bool b=>eqV (.bl b) x
 | .int i _=>eqV (.int i) x
 | .str z _=>eqV (.str z) x
 | _=>false
theorem L3{x y:V}{u:Value}(r:RelV y u)(f:Ut y=true):eqU x u=eqV y x:=by
 cases y with
 | non=>cases r;rfl
 | bl b=>cases r;rfl
 | int i=>obtain⟨t,rfl⟩:=r;rfl
 | str z=>obtain⟨t,rfl⟩:=r;rfl
 | _=>exact absurd (show false=true from f) Bool.false_ne_true
theorem XG{x:V}:∀{xs:List V}{us:List Value},Vals xs us->xs.all Ut=true->us.any (eqU x)=xs.any λy=>eqV y x
 | _,_,.nil,_=>rfl
 | y::xs,u::us,.cons r t,f=>by
  rw [List.all_cons,Bool.and_eq_true]at f;rw [List.any_cons,List.any_cons,L3 r f.1,XG t f.2]
theorem UX{A:Around}{s:Shared}{x:V}{v:Value}(rx:RelV x v)(fx:Ut x=true):∀{xs:List V}{us:List Value},Vals xs us->xs.all Ut=true->∀u∈us,SeqAt.EqAt A s u v (eqU x u)
 | _,_,.nil,_=>λu hu=>by cases hu
 | y::xs,u::us,.cons r t,f=>λG hu=>by
  rw [List.all_cons,Bool.and_eq_true]at f;rcases List.mem_cons.mp hu with rfl | hu
  .rw [L3 r f.1];exact Pz r rx f.1 fx
  .exact UX rx fx t f.2 G hu
def inV(x:V)(xs:List V):Bool:=xs.any λy=>eqV y x
def rIn(K:Fg)(neg:Bool):R2:=λx y H Q=>∃p xs,y=.ref p/\(SqL K H p xs\/SqT K H p xs)/\Ut x=true/\xs.all Ut=true/\Q (.bl (if neg then !inV x xs else inV x xs)) H
theorem Xq:OpR X (compareOp .NotIn) (rIn X.K true):=by
 intro pins s σ H x y v u Q I J U h;obtain⟨p,xs,rfl,hq,L,fs,q⟩:=h;cases U;rcases hq with hq | hq
 .obtain⟨its,r,pl,Y⟩:=I.list hq;refine SeqAt.notIn_listAt (eqU x) pl.isList (λw G=>UX J L r fs w (by simpa using G)) ⟨.bl _,H,I,rfl,?_⟩;rw [show its.toArray.any (eqU x)=its.any (eqU x)by simp,XG r fs];exact q
 .obtain⟨its,r,pl,Y⟩:=I.tuple hq;refine SeqAt.notIn_tupleAt (eqU x) pl (λw G=>UX J L r fs w (by simpa using G)) ⟨.bl _,H,I,rfl,?_⟩;rw [show its.toArray.any (eqU x)=its.any (eqU x)by simp,XG r fs];exact q
theorem Qs:QR X (.builtin "len") (λxs H Q=>∃p ys,xs=[.ref p]/\(SqL X.K H p ys\/SqT X.K H p ys)/\Q (.int ys.length) H):=by
 intro pins s σ H xs Y Q I r h;obtain⟨p,ys,rfl,hq,q⟩:=h;obtain⟨u,rfl,L⟩:=US r;cases L;have Z:=Yv;rcases hq with hq | hq
 .obtain⟨its,J,pl,U⟩:=I.list hq;have G:=J.length;exact Calls.call_len_list pl.isList (by simp only [List.size_toArray]<;>lia) ⟨.int ys.length,H,I.tok _,⟨s.toks+1,by rw [List.size_toArray,G]⟩,q⟩
 .obtain⟨its,J,pl,U⟩:=I.tuple hq;have G:=J.length;exact len_tuple pl (by simp only [List.size_toArray]<;>lia) ⟨.int ys.length,H,I.tok _,⟨s.toks+1,by rw [List.size_toArray,G]⟩,q⟩
theorem ZN:QR X (.type "list") (λxs H Q=>∃p ys,xs=[.ref p]/\(SqL X.K H p ys\/SqT X.K H p ys)/\∀l,H l=none->Q (.ref l) (upd H l (.lst ys))):=by
 intro pins s σ H xs us Q I r h;obtain⟨p,ys,rfl,hq,q⟩:=h;obtain⟨u,rfl,rx⟩:=US r;cases rx;have fin:∀(its:List Value),Vals ys its->ys.length<=sizeLine->∀(h':Heap)(G:Nat),(∀b o',s.heap.get? b=some o'->h'.get? b=some o')->
  h'.get? s.heap.objs.size=some { cls:=.type "list",dict:=none,data:=.seq its.toArray G,slots:=#[] }->EP X pins σ Q (.ref s.heap.objs.size) { s with heap:=h' }:=λits J L h' G kp e=>
  ⟨.ref s.heap.objs.size,_,I.laid (t':=s.toks) kp (7:) (show ObjOk X.prog X.w _ h' _ (.lst ys)from⟨L,its,G,J,e⟩),rfl,q _ (I.hok.fresh (7:))⟩
 rcases hq with hq | hq
 .obtain⟨its,J,pl,L⟩:=I.list hq;have U:=J.length;obtain⟨o,Y,Z,n,hd⟩:=pl.isList;exact call_list_seq p (.inl rfl) Y Z hd (λh' G kp e=>fin its J L h' G kp e) (by simp only [List.size_toArray]<;>lia)
 .obtain⟨its,J,pl,L⟩:=I.tuple hq;have U:=J.length;obtain⟨o,Y,Z,n,hd⟩:=pl;exact call_list_seq p (.inr rfl) Y Z hd (λh' G kp e=>fin its J L h' G kp e) (by simp only [List.size_toArray]<;>lia)
theorem Zz:QR X (.type "tuple") (λxs H Q=>∃p ys,xs=[.ref p]/\((SqL X.K H p ys/\∀l,H l=none->Q (.ref l) (upd H l (.tup ys)))\/(SqT X.K H p ys/\Q (.ref p) H))):=by
 intro pins s σ H xs us Q I r h;obtain⟨p,ys,rfl,h⟩:=h;obtain⟨u,rfl,Y⟩:=US r;cases Y;rcases h with⟨G,q⟩ | ⟨G,q⟩
 .obtain⟨its,J,pl,L⟩:=I.list G;have Z:=J.length;refine call_tuple_list pl.isList (λh' kp=>?_) (by simp only [List.size_toArray]<;>lia);have U:Inv X pins σ H { s with heap:=h' }:=I.kept (t':=s.toks) kp;have I2:Inv X pins σ (upd H h'.objs.size (.tup ys)) { s with heap:=h'.push { cls:=.type "tuple",data:=.seq its.toArray } }:=
   U.laid (t':=s.toks) (λb o e=>Heap.get?_push_of_some _ e) (7:) (show ObjOk X.prog X.w _ _ _ (.tup ys)from⟨L,its,J,IsTup.new _ _⟩)
  exact⟨.ref h'.objs.size,_,I2,rfl,q _ (U.hok.fresh (7:))⟩
 .obtain⟨its,J,pl,L⟩:=I.tuple G;exact call_tuple_same pl ⟨.ref p,H,I,rfl,q⟩
def tyV(K:Fg)(T:String)(x:V)(H:Hp):Prop:=match x with
 | .str _=>T="str"
 | .int _=>T="int"
 | .ref p=>(T="list"/\ ∃xs,SqL K H p xs)\/(T="tuple"/\ ∃o,K.lookup p=some o/\o.cls=.type "tuple"/\ o.dict=none) \/
  (T="dict"/\ ((∃kvs,H p=some (.dK kvs))\/∃kvs,H p=some (.dT kvs)))\/(T="set"/\ ∃S n,H p=some (.set S n))
 | _=>False
theorem R9{pins:List (8:)}{σ:St}{H:Hp}{s:Shared}{T:String}{x:V}{v:Value}(I:Inv X pins σ H s)(r:RelV x v)(ty:tyV X.K T x H):
 s.TypeIs v T/\∀a,v=.ref a->∃ob,s.heap.get? a=some ob/\ob.dict=none:=by
 cases x with
 | str z=>
  obtain⟨t,rfl⟩:=r;cases (show T="str" from ty);exact⟨typeIs_str s z t,λ_ e=>nomatch e⟩
 | int i=>
  obtain⟨t,rfl⟩:=r;cases (show T="int" from ty);exact⟨typeIs_int s i t,λ_ e=>nomatch e⟩
 | ref p=>
  cases r;rcases ty with⟨rfl,xs,L⟩ | ⟨rfl,o,G,U,J⟩ | ⟨rfl,G⟩ | ⟨rfl,S,n,G⟩
  .obtain⟨its,_,pl,_⟩:=I.list L;refine⟨pl.isList.typeIs,λa e=>?_⟩;cases e;obtain⟨o,n,e,c,J,_⟩:=pl;exact⟨o,e,J⟩
  .refine⟨⟨o,I.kIn p o G,U⟩,λa e=>?_⟩;cases e;exact⟨o,I.kIn _ o G,J⟩
  .have z:∃o,s.heap.get? p=some o/\o.ExactDict:=by
    rcases G with⟨kvs,G⟩ | ⟨kvs,G⟩
    .obtain⟨_,_,_,_,o,_,_,e,ex,_⟩:=I.hok p _ G;exact⟨o,e,ex⟩
    .obtain⟨_,_,_,_,o,_,_,e,ex,_⟩:=I.hok p _ G;exact⟨o,e,ex⟩
   obtain⟨o,e,ex⟩:=z;refine⟨⟨o,e,ex.1⟩,λa e2=>?_⟩;cases e2;exact⟨o,e,ex.2.1⟩
  .obtain⟨o,_,_,_,e,ex,_⟩:=I.hok p _ G;refine⟨⟨o,e,ex.1⟩,λa e2=>?_⟩;cases e2;exact⟨o,e,ex.2.1⟩
 | _=>exact False.elim ty
def tBM(K:Fg)(T:String)(r:V->List V->Hp->VK->Prop)(to:TE)(t:TA):TE:=λσ H Q=>to σ H λx H1=>tyV K T x H1/\t σ H1 λxs H2=>r x xs H2 Q
variable{o e:Expr}{es:List Expr}{to:TE}{t:TA}{name:Str}{apos cpos:Pos}{T id:String}{r:V->List V->Hp->VK->Prop}
theorem U1(pa:PlainAttrs T)(slot:Slot T name id)(hty:typeOf (.builtin id)=pure (.type "method_descriptor"))(hm:MtR X id r)(ho:PE X o to)(ha:PA X (e::es) t)
 (hbase:attributeBase o name X.env (eval o X.env)=eval o X.env:=by rfl)
 (hfew:((backTo cpos (starEach (e::es) X.env)).all (λx=>!x.1)&&(backToKw cpos (keywordEach [] X.env)).all (λx=>x.1.isSome)
  &&decide ((e::es).length+([]:List Keyword).length+(61:)<30))=true:=by rfl)
 (hline:(apos.endLine==cpos.line)=true:=by rfl) (hs:starEach (e::es) X.env=(46:)::starEach es X.env:=by rfl) (hplain:(backTo cpos (starEach es X.env)).any (·.1)=false:=by rfl):
 PE X (.Call (.Attribute o name apos) (e::es) [] cpos) (tBM X.K T r to t):=by
 intro pins s σ H Q I h;refine wpAny_Call_method_late hbase hfew hline rfl (thn (ho pins s σ H _ I h) λv U ⟨x,H1,G,J,ty,Y⟩=>?_);obtain⟨h1,h2⟩:=R9 G J ty;refine⟨T,id,pa,slot,hty,h1,h2,?_⟩;have L:=ha cpos pins U σ H1 _ G Y;rw [hs]at L ⊢;refine Calls.callWith_builtin (by show(false||(backTo cpos (starEach es X.env)).any (·.1))=false;rw [hplain]<;>rfl) (Calls.evalArgs_plain ?_);exact thn L λZ s2 ⟨vs,H2,I2,r2,q2⟩=>hm pins s2 σ H2 x vs v Z Q I2 J r2 q2
/-xs.append(e),list.index on a module's tuple .. are MtR facts of 06m-/
end
end L2
namespace L2
open PySem PySem.Spec PyProof.Rows
def MtM(X:Cx)(id:String)(r:V->List V->Hp->VK->Prop):Prop:=
 ∀(pins:List (8:))(s:Shared)(σ:St)(H:Hp)(x:V)(xs:List V)(v:Value)(us:List Value)(Q:VK),Inv X pins σ H s->RelV x v->Vals xs us->r x xs H Q->
  wpAny (3:) X.A (call (.builtin id) (v::us)) (74:) X.xe s
theorem Vals.one:∀{x:V}{us:List Value},Vals [x] us->∃u,us=[u]/\RelV x u
 | _,_,.cons r .nil=>⟨_,rfl,r⟩
theorem Vals.two:∀{x y:V}{us:List Value},Vals [x,y] us->∃u v,us=[u,v]/\RelV x u/\RelV y v
 | _,_,_,.cons r (.cons q .nil)=>⟨_,_,rfl,r,q⟩
section
variable{X:Cx}{pins:List (8:)}{σ:St}{H:Hp}{s:Shared}{l b:Addr}{xs ys zs:List V}
theorem Inv.lset{its its':List Value}{n:Nat}{f:Array Value->Array Value}{t':Nat}(I:Inv X pins σ H s)(hH:H l=some (.lst xs))
 (e:s.heap.get? l=some { cls:=.type "list",data:=.seq its.toArray n }) (hf:f its.toArray=its'.toArray) (hv:Vals ys its') (hz:ys.length<=sizeLine):
 Inv X pins σ (upd H l (.lst ys)) { s with heap:=s.heap.update l (Obj.mapSeq f),toks:=t' }:=by
 have q:=PySem.IsL.update e f;rw [hf]at q;refine I.write (x:=l) (e:=l) (by rw [hH];exact trivial) (.inl rfl) (λL u G J=>(Heap.get?_update_other s.heap (Obj.mapSeq f) (Ne.symm G)).trans J) ⟨_,q⟩ ?_;exact⟨hz,its',_,hv,q⟩
theorem Inv.lnew{its:List Value}{t':Nat}(I:Inv X pins σ H s)(hv:Vals ys its)(hz:ys.length<=sizeLine):
 Inv X pins σ (upd H s.heap.objs.size (.lst ys)) { s with heap:=s.heap.push { cls:=.type "list",data:=.seq its.toArray },toks:=t' }:=
 I.laid (λ_ _ q=>Heap.get?_push_of_some _ q) (7:) ⟨hz,its,0,hv,Heap.get?_push_size _ rfl⟩
theorem Inv.fresh(I:Inv X pins σ H s):H s.heap.objs.size=none:=I.hok.fresh (7:)
theorem Inv.lstM(I:Inv X pins σ H s)(hH:H l=some (.lst xs)):xs.length<=sizeLine/\∃(its:List Value)(n:Nat),Vals xs its/\xs.length=its.length/\s.heap.get? l=some { cls:=.type "list",data:=.seq its.toArray n }:=by
 obtain⟨z,its,n,r,e⟩:=I.hok l _ hH;exact⟨z,its,n,r,r.length,e⟩
theorem Mv{n:Nat}(h:n<=sizeLine):Builtin.List.listTooLong n=false:=by
 unfold Builtin.List.listTooLong;exact decide_eq_false (6:)
end
section
variable{X:Cx}
def Gh:V->List V->Hp->VK->Prop:=λx vs H Q=>∃l xs y,x=.ref l/\vs=[y]/\H l=some (.lst xs)/\xs.length<sizeLine/\Q .non (upd H l (.lst (xs++[y])))
theorem ZG:MtM X "list.append" Gh:=by
 intro pins s σ H x vs v U Q I J L h;obtain⟨l,xs,y,rfl,rfl,G,Y,q⟩:=h;cases J;obtain⟨u,rfl,ru⟩:=L.one;obtain⟨z,its,n,r,Z,e⟩:=I.lstM G;refine call_meets F.slot_list_append ⟨_,e,rfl⟩ F.entry_list_append (F.args_list_append_2 _ _) (PySem.list_append l its.toArray n u (by rw [List.size_toArray];lia)) ⟨e,?_⟩;refine⟨.non,_,I.lset (its':=its++[u]) G e (21:) (r.append (.cons ru .nil)) ?_,rfl,q⟩;rw [List.length_append,List.length_singleton];lia
def Ox:V->List V->Hp->VK->Prop:=λx vs H Q=>∃l b xs zs,x=.ref l/\vs=[.ref b]/\H l=some (.lst xs)/\H b=some (.lst zs)/\xs.length+zs.length<=sizeLine/\Q .non (upd H l (.lst (xs++zs)))
theorem GC:MtM X "list.extend" Ox:=by
 intro pins s σ H x vs v us Q I Y Z h;obtain⟨l,b,xs,zs,rfl,rfl,L,hB,hz,q⟩:=h;cases Y;obtain⟨u,rfl,ru⟩:=Z.one;cases ru;obtain⟨z,its,n,r,hl,e⟩:=I.lstM L;obtain⟨z2,G,n2,r2,aa,e2⟩:=I.lstM hB;have U:its.toArray.size+G.toArray.size<=sizeLine:=by rw [List.size_toArray,List.size_toArray];lia
 have J:¬(!its.toArray.isEmpty&&Builtin.List.listTooLong (its.toArray.size+G.toArray.size))=true:=by
  rw [Mv U,Bool.and_false];exact Bool.false_ne_true
 refine call_meets F.slot_list_extend ⟨_,e,rfl⟩ F.entry_list_extend (F.args_list_extend_2 _ _)
  (AutoSeq1.list_extend_list_list_0 l its.toArray n b G.toArray n2 J (by rw [List.size_toArray];lia) (6:)) ⟨e,e2,?_⟩
 refine⟨.non,_,I.lset (its':=its++G) L e (21:) (r.append r2) ?_,rfl,q⟩;rw [List.length_append];lia
end
section
variable{prog:Program}{w:World}{A:Around}{E:Value->Shared->Prop}{s:Shared}
set_option maxRecDepth 100000 in
end
section
variable{X:Cx}
end
end L2
namespace Att
open PySem PySem.W PySem.Calls PyProof.Rows
theorem UD{P:Params}{h:Heap}:∀(ns:List Int)(vs:List Value),WellAll P h vs (ns.map WData.int)->IntsAre vs ns:=by
 intro ns
 induction ns with
 | nil=>
  intro vs w;rw [List.map_nil]at w;cases w;exact .nil
 | cons n ns G=>
  intro vs w;rw [List.map_cons]at w;cases w with
  | cons a b=>
   cases a;exact .cons _ _ (G _ b)
theorem Ll{l:OpenLaw}{n:Nat}(hn:l.most=some n){P:Params}{h:Heap}{args:List WData}{vals:List Value}
 (hpre:l.row.toRowW.claim.pre args=true) (hwl:WellAll P h vals args):
 ∃a vs ns,vals=[Value.ref a]/\args=[WData.list (ns.map WData.int)]/\h.get? a=some { cls:=.type "list",data:=.seq vs.toArray }/\IntsAre vs ns/\ns.length<=n:=by
 have Y:WShape.hasAll [] args [.list .int]=true:=(pre_splitW hpre).1;have Z:l.pre.holds [] { args:=args }=true:=(pre_splitW hpre).2;obtain⟨d,r,rfl,h1,h2⟩:=hasAllW_cons Y;obtain rfl:=hasAllW_nil h2;obtain⟨xs,rfl,h3⟩:=hasW_list h1;obtain⟨ns,rfl⟩:=items_int h3;have L:ns.length<=n:=by
  unfold OpenLaw.pre at Z;have G:(WTm.not (.lt (.lit (.int (n:Int))) (.len (.arg 0)))).holds [] { args:=[.list (ns.map .int)] }=true:=by
   have G:=(holds_andW Z).1;rw [hn]at G;exact G
  have J:=condW_of G (w_not (w_lt w_lit (w_len_list (w_arg rfl))));rw [List.length_map]at J;refine Nat.le_of_not_lt λq=>?_;have q':(n:Int)<((ns.length:Nat):Int):=by lia
  first
   | (rw [decide_eq_true q']at J;exact absurd J (18:))
   | (simp at J;lia)
 cases hwl with
 | cons w1 w2=>
  cases w2;cases w1 with
  | list ho U=>exact⟨_,_,ns,rfl,rfl,ho,UD ns _ U,L⟩
theorem Lm(l:OpenLaw)(args:List WData):l.row.toRowW.claim.post args (.bool true) args=true:=
 postW_of (r:=l.row.toRowW) (X:=(true==true))
  (show WShape.has [] (.bool true) .bool=true by first | rfl | decide | simp [WShape.has,WShape.arms,WShape.armsAll])
  (show(WTm.eq .res (.lit (.bool true))).value [] { args:=args,res:=some (.bool true),after:=args }=some (.bool (true==true))from w_eq_bool (w_res rfl) w_lit) rfl
theorem attach_call{l:OpenLaw}{n:Nat}{q:Program}{loose:List Str}{XP:(Str->Option Value)->Heap->Prop}{YP:World->Heap->Prop}{d:DefRec}
 (hn:l.most=some n) (hdf:d.params.defaults=[])
 (call:∀(w:World)(s₀ s₁:Shared)(mg mb:Str->Option Value)(fa:Addr)(o:Obj)(pm cd doc:Value)(a:Addr)(vs:List Value)(ns:List Int),Ground q loose [] XP w s₀ mg mb s₁.heap->YP w s₁.heap->
  s₁.heap.get? fa=some o->o.data=.func (docDef d.name d.params d.body d.scope pm cd doc)->s₁.heap.CodeRec cd d.name->mg d.name=some (.ref fa)->
  s₁.heap.get? a=some { cls:=.type "list",data:=.seq vs.toArray }->IntsAre vs ns->ns.length<=n->s₁.gens=#[]->
  codeAny (model l.prog w) callerA (.call (.ref fa) ⟨[.ref a],[]⟩) (24:) s₁):
 WalkO q loose XP YP l.row.toRowW d [] (λf vs=>PySem.call f vs):=by
 intro w s₀ s₁ mg mb G Y fa o pm cd doc dV kV ho hd aa hD ab hg ad ae as L af ag ac ah;obtain rfl:dV=.none:=Dflts.none hD hdf;obtain rfl:kV=.none:=Dflts.noKw hD;obtain⟨a,vs,ns,rfl,rfl,U,J,Z⟩:=Ll hn L ac;refine enter_call (codeAny_mono (call w s₀ s₁ mg mb fa o pm cd doc a vs ns G Y ho (fd_plain hd) aa ab U J Z hg) λr s' hq=>?_);obtain⟨rfl,h2,h3,h4⟩:=hq;exact⟨.inl ⟨.bool true,.bool true,[],rfl,λ_=>rfl,.bool true,Lm l _,λ_=>⟨List.Pairwise.nil,λ_ hm=>(nomatch hm)⟩⟩,h2,h3,h4⟩
section
variable{prog:Program}{w:World}{A:Around}{E:Value->Shared->Prop}{s:Shared}{K:Frag}
def AA(h:Heap)(L d:Addr):List (8:):=(List.range h.objs.size).filterMap λa=>if a=L\/a=d then none else(h.get? a).map λo=>(a,o)
end
end Att
namespace L2
open PySem PySem.Spec PyProof.Rows
theorem YZ:∀{vs:List Value}{ns:List Int},IntsAre vs ns->Vals (ns.map V.int) vs
 | _,_,.nil=>.nil
 | _,_,.cons n t h=>.cons ⟨t,rfl⟩ (YZ h)
def Rc(H:Hp):Prop:=∀b,H b=none\/∃o xs,H b=some (.frz o (.lst xs))
theorem Ml{P:Program}{w:World}{K:Fg}{mg mb:Str->Option Value}{CX:CXT}{k:Nat}{fa a:Addr}{fd:FuncData}{x:Str}{sp:Sp}{s₁:Shared}{vs:List Value}{ns:List Int}
 (KX:K.In s₁.heap) (hns:s₁.heap.Ns mainGlobals mg) (hb:s₁.heap.Ns builtinsNs mb) (hbb:∀x:Str,x≠"__name__"->mb x=bootBuiltins x) (hlim:s₁.heap.NoLimit) (hg:s₁.gens=#[])
 (ha:s₁.heap.get? a=some { cls:=.type "list",data:=.seq vs.toArray }) (hi:IntsAre vs ns) (hl:ns.length<=sizeLine) (hr:Room k callerA)
 (F:∀base:Heap,K.In base->base.Ns mainGlobals mg->FnOk P w K mg base CX k fa fd [x] sp) (hbind:∀(s:Shared)(u:Value),BindsTo s fd ⟨[u],[]⟩ [(x,u)])
 (hsp:∀H:Hp,Rc H->SqL K H a (ns.map V.int)->sp [.ref a] H (λv _=>v=.bl true) λ_ _ _=>False)
 (hCX:∀H e s',CX [] H s₁ (λ_ _ _=>False) e s'->False):
 codeAny (model P w) callerA (.call (.ref fa) ⟨[.ref a],[]⟩) (24:) s₁:=by
 have rv:=YZ hi;have aa:=hi.length;have L:∀H:Hp,Rc H->SqL K H a (ns.map V.int)->HOk P w H s₁.heap->(∀b,H b≠none->b=a)->(H a≠none->K.lookup a=none)->
  codeAny (model P w) callerA (.call (.ref fa) ⟨[.ref a],[]⟩) (24:) s₁:=by
  intro H hO hS Y hA hK;have G:∀{b:Addr}{o:Obj},s₁.heap.get? b=some o->H b=none->(YA s₁.heap H).get? b=some o:=λe n=>WR e n;have ad:∀{b:Addr}{o:Obj}{es:Array DictEntry}{ep:Nat},s₁.heap.get? b=some o->o.data=.dict es ep->H b=none:=λ{b o es ep} e d=>by
   cases q:H b with
   | none=>rfl
   | some u=>
    have e':b=a:=hA b (by rw [q];simp);subst e';rw [ha]at e;cases e;have d':Data.seq vs.toArray _=Data.dict es ep:=d;cases d'
  have J:∀{b:Addr}{m:Str->Option Value},s₁.heap.Ns b m->(YA s₁.heap H).Ns b m:=λ{b m} ⟨o,es,ep,e,d,r⟩=>⟨o,es,ep,G e (ad e d),d,r⟩;have Z:K.In (YA s₁.heap H):=λb o e=>G (KX b o e) (by
   cases q:H b with
   | none=>rfl
   | some u=>
    have e':b=a:=hA b (by rw [q];simp);subst e';rw [hK (by rw [q];simp)]at e;cases e)
  have hM:Mod K mg (YA s₁.heap H):=⟨Z,J hns,⟨mb,J hb,hbb⟩,let⟨mc,h1,h2⟩:=hlim;⟨mc,J h1,h2⟩⟩;have e0:Env0 P w K mg (YA s₁.heap H) callerA [] s₁ H:=⟨rfl,hM,λb o e=>V5 e,Nat.le_of_eq (JY _ _),trivial,λb hb=>absurd (show b∈([]:List Addr)from hb) (21:),Y,.of_eq hg⟩;refine codeAny_mono ((F _ Z (J hns)).run callerA [] s₁ H ⟨[.ref a],[]⟩ [.ref a] [.ref a] _ _ hr e0 (hbind s₁ (.ref a)) (.cons rfl .nil) (hsp H hO hS)) λr s' h=>?_;cases r with
  | error e=>exact(hCX H e s' h).elim
  | ok fl=>
   cases fl with
   | next=>exact False.elim h
   | brk=>exact False.elim h
   | cont=>exact False.elim h
   | ret u=>
    obtain⟨v,H',os,ab,un,ac,r',q⟩:=h;have q':v=.bl true:=q;subst q';obtain rfl:u=Value.bool true:=r';refine⟨rfl,OldK.of_keep λb o e=>?_,os,ab⟩;cases q:H b with
    | none=>exact un.keep b o e q (by intro z;exact absurd (show b∈([]:List Addr)from z) (21:)) (21:)
    | some u=>
     rcases hO b with z | ⟨ob,xs,z⟩
     .rw [q]at z;cases z
     .have z2:=un.frzs b ob _ z;obtain⟨e1,_⟩:=Y b _ z;obtain⟨e2,_⟩:=ac b _ z2;rw [e]at e1;cases e1;exact e2
 cases hk:K.lookup a with
 | some o=>
  have e:=KX a o hk;rw [ha]at e;cases e;refine L (λ_=>none) (λ_=>.inl rfl) (.inr ⟨_,vs.toArray,_,hk,rfl,rfl,rfl,by rw [List.size_toArray,aa];exact hl,by simpa using rv⟩) (λb u z=>by have U:(none:Option HO)=some u:=z;cases U) (λb z=>absurd rfl z) λz=>absurd rfl z
 | none=>
  refine L (λb=>if b=a then some (.frz { cls:=.type "list",data:=.seq vs.toArray } (.lst (ns.map V.int)))else none) (λb=>?_) (.inl (.inr ⟨{ cls:=.type "list",data:=.seq vs.toArray },if_pos rfl⟩)) (λb u z=>?_) (λb z=>?_) λ_=>hk
  .by_cases hb:b=a
   .exact .inr ⟨_,_,if_pos hb⟩
   .exact .inl (if_neg hb)
  .by_cases hb:b=a
   .have U:=(if_pos hb).symm.trans z;cases U;subst hb;exact⟨ha,by rw [List.length_map];exact hl,vs,_,rv,ha⟩
   .have U:=(if_neg hb).symm.trans z;cases U
  .by_cases hb:b=a
   .exact hb
   .exact absurd (if_neg hb) z
end L2
namespace L2
open PySem PySem.Spec PyProof.Rows
abbrev KOf{K:Fg}{h:Heap}(_:K.In h):Fg:=K
theorem walk_of{l:PySem.W.OpenLaw}{n k:Nat}{q:Program}{loose:List Str}{XP:(Str->Option Value)->Heap->Prop}{YP:World->Heap->Prop}{d:DefRec}{K:Params->Fg}{CX:World->CXT}{sp:World->Sp}{x:Str}
 (hn:l.most=some n) (hn2:n<=sizeLine) (hdf:d.params.defaults=[]) (hr:Room k callerA)
 (hY:∀(w:World)(h:Heap),YP w h->(K w.params).In h)
 (F:∀(w:World)(mg:Str->Option Value)(fa:Addr)(h:Heap),(K w.params).In h->h.Ns mainGlobals mg->mg d.name=some (.ref fa)->
  ∃fd:FuncData,(∀(s:Shared)(u:Value),BindsTo s fd ⟨[u],[]⟩ [(x,u)])/\
   ∀base:Heap,(K w.params).In base->base.Ns mainGlobals mg->FnOk l.prog w (K w.params) mg base (CX w) k fa fd [x] (sp w))
 (hsp:∀(w:World)(H:Hp)(a:Addr)(ns:List Int),ns.length<=n->Rc H->SqL (K w.params) H a (ns.map V.int)->sp w [.ref a] H (λv _=>v=.bl true) λ_ _ _=>False)
 (hCX:∀(w:World)(H:Hp)(s:Shared)(e:Value)(s':Shared),CX w [] H s (λ_ _ _=>False) e s'->False):
 PySem.W.WalkO q loose XP YP l.row.toRowW d [] (λf vs=>PySem.call f vs):=by
 refine Att.attach_call hn hdf λw s₀ aa mg mb fa o pm cd ab a vs ns G Y ho hd ac Z U L J hg=>?_;have KX:=hY w _ Y;obtain⟨fd,hb,hF⟩:=F w mg fa _ KX G.T.g Z;exact Ml KX G.T.g G.T.b G.T.builtins G.T.nolimit hg U L (Nat.le_trans J hn2) hr hF hb (λH hO hS=>hsp w H a ns J hO hS) λH e s'=>hCX w H aa e s'
end L2
/-THE LAST THEOREM (shape;LID,My.*are yours):
 My.Adr:a structure of the addresses that your layer names (classes,functions);My.Txt K t:a structure (Prop) of the equations over K;
 My.txt_mk:{K} {implicit addresses ..} (e1:nsIn K mainGlobals "law"=some (some (82:))) (e2:K.lookup f=some ⟨oc,od,.func (fnOf "law" "law" params body scope dV kV doc pm an cdv ct),sl⟩) (e3:codeIn K cdv "law"=true) .. : ∃t,My.Txt K t
set_option maxRecDepth 100000 in
set_option maxHeartbeats 0 in
theorem PySem.Challenge.cw_LID_holds : PySem.Challenge.rw_LID.Holds := by
 w_on;o_law;k_head;(case hw=>w_witness2)
 k_fill
 refine L2.walk_of (l:=PySem.Challenge.rw_LID) (n:=63) (k:=40) (x:="script") (CX:=λw=>..) (sp:=λ_=>My.sp_law) rfl (18:) rfl ⟨rfl,by decide,by decide⟩ (λw h Y=>PySem.W.kIn_of Y) ?F ?S ?C
 case F=>
  intro w mg fa h KX G hmg;have T:∃t,My.Txt (L2.KOf KX) t:=by
   dsimp only [L2.KOf]                          --K must stand as «<heap const>w.params» for k_is
   refine' My.txt_mk ?e1 ?e2 ?e3 ..
   (case e1=>PySem.W.k_is)                    --in the order:a name->its address->its object->its parts
   (case e2=>PySem.W.k_is)
   ..
  obtain⟨t,T⟩:=T;have e0:=hmg.symm.trans (PySem.W.mg_of KX G T.law);cases e0                                       --fa is the law's own address
  exact⟨_,λs u=>.of_eq rfl,λbase kb nb=>My.law_fn T kb nb⟩     --if «.of_eq rfl» comes too early:refine' ⟨_,?b,λbase kb nb=>My.law_fn T kb nb⟩;exact λs u=>.of_eq rfl
 case S=>exact λw H a ns hl hO hS=>..
 case C=>exact ..
(the tactic k_is has no namespace:write k_is)-/
namespace L2
open PySem PySem.Spec PyProof.Rows
def inClass(s:Stmt)(j:Nat):Stmt:=match s with
 | .ClassDef _ _ _ body _ _ _ _ _ _ _=>body.getD j (.Pass ⟨0,0,0,0⟩)
 | _=>.Pass ⟨0,0,0,0⟩
def defArgs(s:Stmt):Arguments:=match s with
 | .FunctionDef _ a _ _ _ _ _ _ _ _=>a
 | _=>{ posonlyargs:=[],args:=[],vararg:=none,kwonlyargs:=[],kw_defaults:=[],kwarg:=none,defaults:=[] }
def defBody(s:Stmt):List Stmt:=match s with
 | .FunctionDef _ _ b _ _ _ _ _ _ _=>b
 | _=>[]
def defScope(s:Stmt):Scope:=match s with
 | .FunctionDef _ _ _ _ _ _ sc _ _ _=>sc
 | _=>{ kind:=.function,names:=[],isGenerator:=false,isCoroutine:=false }
abbrev CX0:CXT:=λ_ _ _ _ _ _=>False
abbrev E0:XK:=λ_ _ _=>False
theorem Yq{X:Cx}:Yz CX0 X E0:=λ_ _ _ _ _ _ _ h=>h.elim
structure Fun(K:Fg)(x qual:Str)(st:Stmt)(f:Addr)(fd:FuncData):Prop where
 ex:∃(oc:Value)(od:Option Addr)(kV doc pm:Value)(an:Option Addr)(cdv ct:Value)(osl:Array (Option Value)),
  fd=PySem.W.fnOf x qual (defArgs st) (83:) (52:) .none kV doc pm an cdv ct/\K.lookup f=some ⟨oc,od,.func fd,osl⟩/\PySem.W.codeIn K cdv qual=true
 kp:PySem.W.keepIn K (82:)=true
section
variable{P:Program}{w:World}{K:Fg}{mg:Str->Option Value}{base:Heap}
theorem Fun.ok{x qual:Str}{st:Stmt}{f:Addr}{fd:FuncData}{N ps:List Str}{k:Nat}{sp:Sp}(F:Fun K x qual st f fd)(S:FnScope N ps (52:))(len:∀vs H Q E,sp vs H Q E->vs.length=ps.length)
 (hbody:∀(cdv:Value)(A:Around)(outer:List Env)(s:Shared)(H:Hp)(vs:List V)(Q:VK)(E:XK),Room k (A.deeper (envOfC qual (52:) s.heap.objs.size f cdv))->sp vs H Q E->
  ∃t,PSs (Qn CX0 P w K mg base N qual (52:) f cdv A outer s H E).nox (83:) t/\t { nx:=λ_ H'=>Q .non H',rt:=Q } (ZH N vs) H):FnOk P w K mg base CX0 (k+1) f fd ps sp:=by
 obtain⟨oc,od,kV,Y,pm,an,cdv,ct,Z,rfl,L,G⟩:=F.ex;refine Gi L G S len λA outer s H vs Q E U J=>?_;obtain⟨t,h,q⟩:=hbody cdv A outer s H vs Q E U J;exact⟨t,h.nox,q⟩
theorem Fun.binds{x qual:Str}{st:Stmt}{f:Addr}{fd:FuncData}{ps:List Str}(F:Fun K x qual st f fd)
 (h:∀(kV doc pm:Value)(an:Option Addr)(cdv ct:Value)(us:List Value),us.length=ps.length->bindArgs (PySem.W.fnOf x qual (defArgs st) (83:) (52:) .none kV doc pm an cdv ct) ⟨us,[]⟩=pure (ps.zip us)):Binds K fd ps []:=by
 obtain⟨L,U,kV,doc,pm,an,cdv,ct,G,rfl,Y,J⟩:=F.ex;exact .all (h kV doc pm an cdv ct)
theorem QD{x qual:Str}{st:Stmt}{f:Addr}{oc:Value}{od an:Option Addr}{osl:Array (Option Value)}{kV doc pm cdv ct:Value}(l:K.lookup f=some ⟨oc,od,.func (PySem.W.fnOf x qual (defArgs st) (83:) (52:) .none kV doc pm an cdv ct),osl⟩)
 (c:PySem.W.codeIn K cdv qual=true) (k:PySem.W.keepIn K (82:)=true):Fun K x qual st f (PySem.W.fnOf x qual (defArgs st) (83:) (52:) .none kV doc pm an cdv ct):=⟨⟨oc,od,kV,doc,pm,an,cdv,ct,osl,rfl,l,c⟩,k⟩
end
theorem Z8{A:Around}{k:Nat}(hr:Room k A):A.units+1<cLine:=Nat.lt_of_le_of_lt (Nat.add_le_add_left (by decide:1<=64) _) hr.units
section
variable{X:Cx}
theorem pv(i:Nat){x:Str}{pos:Pos}(hN:X.N[i]?=some x:=by rfl)(hv:Vis X.env.scope x:=by first | exact Or.inl rfl | exact Or.inr (32:) | exact Or.inr (Or.inr rfl))(hd:(22:)=false:=by decide)
 (hcd:(x==("__classdict__":Str))=false:=by decide):PE X (.Name x pos) (UE i):=Vk hN hv hd hcd
end
theorem Zn{A B:Prop}(h:B):if false=true then A else B:=by
 rw [if_neg Bool.false_ne_true];exact h
theorem Zk{A B:Prop}(h:A):if true=true then A else B:=by
 rw [if_pos rfl];exact h
theorem WE{c A B:Prop} [Decidable c] (h1:c->A) (h2:¬c->B):if c then A else B:=by
 by_cases h:c
 .rw [if_pos h];exact h1 h
 .rw [if_neg h];exact h2 h
theorem Mm{c A B:Prop} [Decidable c] (hc:c) (h:B):if(!decide c)=true then A else B:=by
 rw [decide_eq_true hc];exact Zn h
def Same(H H':Hp):Prop:=∀b o,H b=some o->H' b=some o
theorem Same.refl(H:Hp):Same H H:=λ_ _ h=>h
theorem Same.trans{H H1 H2:Hp}(a:Same H H1)(b:Same H1 H2):Same H H2:=λc o h=>b c o (a c o h)
theorem Same.free{H H':Hp}(e:Same H H'){l:Addr}(h:H' l=Option.none):H l=Option.none:=by
 cases q:H l with
 | none=>rfl
 | some o=>
  rw [e l o q]at h;cases h
theorem Same.seq{K:Fg}{H H':Hp}{a:Addr}{xs:List V}(e:Same H H')(h:SqL K H a xs):SqL K H' a xs:=by
 rcases h with(h | ⟨o,h⟩) | h
 .exact .inl (.inl (e _ _ h))
 .exact .inl (.inr ⟨o,e _ _ h⟩)
 .exact .inr h
end L2
set_option maxHeartbeats 4000000
namespace L2
open PySem PySem.Spec PyProof.Rows
section
variable{X:Cx}
theorem Zt:QR X (.builtin "isinstance") (λxs H Q=>∃x T t b,xs=[x,.ty T]/\TyOf X.K H x t/\PySem.W.kitOne X.K t (.type T)=some b/\Q (.bl b) H):=by
 intro pins s σ H xs L Q I r h;obtain⟨x,T,t,b,rfl,ty,e,q⟩:=h;obtain⟨u,c,rfl,G,J⟩:=O2 r;cases (show c=Value.type T from J);exact Lf I G ty e λtk=>⟨.bl b,H,I.tok tk,rfl,q⟩
end
section
variable{X:Cx}
end
mutual
inductive RdV(K:Fg)(H:Hp):V->PyData->Prop where
 | non:RdV K H .non .none
 | bl (b:Bool):RdV K H (.bl b) (.bool b)
 | int (i:Int):RdV K H (.int i) (.int i)
 | str (x:Str):RdV K H (.str x) (.str x)
 | lst {a:Addr} {xs:List V} {ds:List PyData}:SqL K H a xs->RdAll K H xs ds->RdV K H (.ref a) (.list ds)
 | tup {a:Addr} {xs:List V} {ds:List PyData}:SqT K H a xs->RdAll K H xs ds->RdV K H (.ref a) (.tuple ds)
inductive RdAll(K:Fg)(H:Hp):List V->List PyData->Prop where
 | nil:RdAll K H [] []
 | cons {v:V} {vs:List V} {d:PyData} {ds:List PyData}:RdV K H v d->RdAll K H vs ds->RdAll K H (v::vs) (d::ds)
end
section
variable{X:Cx}{pins:List (8:)}{σ:St}{H:Hp}{s:Shared}
mutual
theorem RdV.reads(I:Inv X pins σ H s):∀{v:V}{d:PyData}{u:Value},RdV X.K H v d->RelV v u->∃as,Reads s.heap u d as
 | _,_,u,.non,r=>by cases (show u=Value.none from r);exact⟨_,.none⟩
 | _,_,u,.bl b,r=>by cases (show u=Value.bool b from r);exact⟨_,.bool b⟩
 | _,_,u,.int i,r=>by obtain⟨t,e⟩:=(show ∃t,u=Value.int i t from r);cases e;exact⟨_,.int i t⟩
 | _,_,u,.str x,r=>by obtain⟨t,e⟩:=(show ∃t,u=Value.str x t from r);cases e;exact⟨_,.str x t⟩
 | _,_,u,@RdV.lst _ _ a xs ds G J,r=>by
  cases (show u=Value.ref a from r);obtain⟨its,L,⟨o,n,e,c,_,dt⟩,_⟩:=I.list G;obtain⟨as,q⟩:=RdAll.reads I J L;exact⟨_,.list e c dt (by simpa using q)⟩
 | _,_,u,@RdV.tup _ _ a xs ds G J,r=>by
  cases (show u=Value.ref a from r);obtain⟨its,L,⟨o,e,c,n,dt⟩,_⟩:=I.tuple G;obtain⟨as,q⟩:=RdAll.reads I J L;exact⟨_,.tuple e c dt (by simpa using q)⟩
theorem RdAll.reads(I:Inv X pins σ H s):∀{vs:List V}{ds:List PyData}{us:List Value},RdAll X.K H vs ds->Vals vs us->∃as,ReadsAll s.heap us ds as
 | _,_,_,.nil,r=>by cases r;exact⟨_,.nil⟩
 | _,_,_,.cons h t,r=>by
  cases r with
  | cons G J=>
   obtain⟨as,q⟩:=RdV.reads I h G;obtain⟨bs,L⟩:=RdAll.reads I t J;exact⟨_,.cons q L⟩
end
end
section
variable{X:Cx}
def Sx(K:Fg)(A:Around)(neg:Bool):R2:=λx y H Q=>∃d e:PyData,RdV K H x d/\RdV K H y e/\d.canLay0=true/\e.canLay0=true/\A.units+min d.depth e.depth<cLine/\Q (.bl (if neg then !PyData.eqv d e else PyData.eqv d e)) H
theorem Sf:OpR X (compareOp .Eq) (Sx X.K X.A false):=by
 intro pins s σ H x y v u Q I G J h;obtain⟨d,e,L,U,cd,Y,Z,q⟩:=h;obtain⟨as,q1⟩:=L.reads I G;obtain⟨bs,q2⟩:=U.reads I J;exact SeqAt.compareEq_reads q1 q2 cd Y Z ⟨.bl _,H,I,rfl,q⟩
theorem L7:OpR X (compareOp .NotEq) (Sx X.K X.A true):=by
 intro pins s σ H x y v u Q I G J h;obtain⟨d,e,L,U,cd,Y,Z,q⟩:=h;obtain⟨as,q1⟩:=L.reads I G;obtain⟨bs,q2⟩:=U.reads I J;exact SeqAt.compareNe_reads q1 q2 cd Y Z ⟨.bl _,H,I,rfl,q⟩
end
mutual
theorem Yb:∀d:PyData,d.canLay0=true->PyData.eqv d d=true
 | .none,_=>by simp [PyData.eqv]
 | .bool _,_=>by simp [PyData.eqv]
 | .int _,_=>by simp [PyData.eqv]
 | .str _,_=>by simp [PyData.eqv]
 | .list xs,h=>by
  simp only [PyData.eqv];exact Yc xs (by simpa [PyData.canLay0]using h)
 | .tuple xs,h=>by
  simp only [PyData.eqv];exact Yc xs (by simpa [PyData.canLay0]using h)
 | .dict _,h=>by simp [PyData.canLay0]at h
theorem Yc:∀ds:List PyData,PyData.canLayAll0 ds=true->PyData.eqvAll ds ds=true
 | [],_=>by simp [PyData.eqvAll]
 | d::ds,h=>by
  simp only [PyData.canLayAll0,Bool.and_eq_true]at h;simp only [PyData.eqvAll,Bool.and_eq_true];exact⟨Yb d h.1,Yc ds h.2⟩
end
end L2
namespace L2
open PySem PySem.Spec PyProof.Rows
structure Fn(P:Program)(w:World)(K:Fg)(mg:Str->Option Value)(base:Heap)(k:Nat)(x:Str)(ps:List Str)(sp:Sp):Prop where
 ex:∃(f:Addr)(fd:FuncData),FnOk P w K mg base CX0 k f fd ps sp/\Binds K fd ps []/\PySem.W.keepIn K (82:)=true/\mg x=some (82:)
theorem QF{X:Cx}{k k':Nat}{x:Str}{ps:List Str}{sp:Sp}{p pos:Pos}{e:Expr}{es:List Expr}{t:TA}(F:Fn X.prog X.w X.K X.mg X.base k x ps sp)(hr:Room k' X.A)(ha:PA X (e::es) t)(hk:k<=k':=by decide)(hg:Gl X x:=by rfl)
 (hdb:(22:)=false:=by decide) (he:starEach (e::es) X.env=(46:)::starEach es X.env:=by rfl) (hpl:(39:).any (·.1)=false:=by rfl):
 PE X (50:) (Wi sp [] E0 t):=by
 obtain⟨f,fd,h1,h2,G,J⟩:=F.ex;exact OA h1 (hr.mono hk) hg J G h2 .nil Yq ha hdb he hpl
theorem UC{c A B:Prop} [Decidable c] (hc:c) (h:A):if decide c=true then A else B:=by
 rw [decide_eq_true hc];exact Zk h
theorem Jy{c A B:Prop} [Decidable c] (hc:¬c) (h:B):if decide c=true then A else B:=by
 rw [decide_eq_false hc];exact Zn h
theorem Qc{H:Hp}{p:Addr}(h:H p=Option.none)(o:HO):Same H (upd H p o):=λb u q=>by rw [Qg (Qd q h)];exact q
def S(l:List Nat):Str:=⟨l.toArray⟩
theorem Lv(l:List Nat):(S l).cps.toList=l:=by simp [S]
theorem L0(l:List Nat):(S l).length=l.length:=by simp [S,Str.length]
theorem Pb{a b:List Nat}(h:S a=S b):a=b:=by
 have:=congrArg (λz:Str=>z.cps.toList) h
 simpa [Lv]using this
end L2
namespace L2
open PySem PySem.Spec PyProof.Rows
def T0(t:TS):TS:=λD σ H=>∃R:St->Hp->Prop,t { D with nx:=R } σ H/\∀σ' H',R σ' H'->D.nx σ' H'
theorem MK{X:Cx}{st:Stmt}{t:TS}(h:PS X st t):PS X st (T0 t):=by
 intro pins s σ H D I G;obtain⟨R,h1,h2⟩:=G;refine thn (h pins s σ H { D with nx:=R } I h1) λf U q=>?_;cases f with
 | next=>
  obtain⟨J,H',L,q⟩:=q;exact⟨J,H',L,h2 _ _ q⟩
 | brk=>exact q
 | cont=>exact q
 | ret v=>exact q
theorem Yy:∀xs:List Str,PyData.depthAll (xs.map PyData.str)=0
 | []=>by simp [PyData.depthAll]
 | x::r=>by simp [PyData.depthAll,PyData.depth,Yy r]
end L2
namespace L2
open PySem PySem.Spec PyProof.Rows
structure DefAt(K:Fg)(x:Str)(st:Stmt):Prop where
 ex:∃(f:Addr)(oc:Value)(od:Option Addr)(kV doc pm:Value)(an:Option Addr)(cdv ct:Value)(osl:Array (Option Value)),
  PySem.W.nsIn K mainGlobals x=some (some (82:))/\K.lookup f=some ⟨oc,od,.func (PySem.W.fnOf x x (defArgs st) (83:) (52:) .none kV doc pm an cdv ct),osl⟩/\PySem.W.codeIn K cdv x=true/\PySem.W.keepIn K (82:)=true
theorem DefAt.mk'{K:Fg}{x:Str}{st:Stmt}{f:Addr}{oc:Value}{od:Option Addr}{kV doc pm:Value}{an:Option Addr}{cdv ct:Value}{osl:Array (Option Value)}
 (a:PySem.W.nsIn K mainGlobals x=some (some (82:))) (l:K.lookup f=some ⟨oc,od,.func (PySem.W.fnOf x x (defArgs st) (83:) (52:) .none kV doc pm an cdv ct),osl⟩) (c:PySem.W.codeIn K cdv x=true) (k:PySem.W.keepIn K (82:)=true):DefAt K x st:=
 ⟨f,oc,od,kV,doc,pm,an,cdv,ct,osl,a,l,c,k⟩
theorem DefAt.fn{P:Program}{w:World}{K:Fg}{mg:Str->Option Value}{base h:Heap}{k:Nat}{x:Str}{st:Stmt}{ps:List Str}{sp:Sp}(D:DefAt K x st)(X:K.In h)(G:h.Ns mainGlobals mg)
 (ok:∀(f:Addr)(fd:FuncData),Fun K x x st f fd->FnOk P w K mg base CX0 k f fd ps sp)
 (hb:∀(kV doc pm:Value)(an:Option Addr)(cdv ct:Value)(us:List Value),us.length=ps.length->bindArgs (PySem.W.fnOf x x (defArgs st) (83:) (52:) .none kV doc pm an cdv ct) ⟨us,[]⟩=pure (ps.zip us)):Fn P w K mg base k x ps sp:=by
 obtain⟨f,L,U,kV,doc,pm,an,cdv,ct,J,a,l,c,kp⟩:=D.ex;have F:=QD (st:=st) l c kp;exact⟨f,_,ok f _ F,F.binds hb,kp,PySem.W.mg_of X G a⟩
end L2
namespace L2
open PySem PySem.Spec PyProof.Rows
section
variable{X:Cx}
def TN(K:Fg):R2:=λx y H Q=>∃a b xs ys,x=.ref a/\y=.ref b/\SqT K H a xs/\SqT K H b ys/\xs.length+ys.length<=sizeLine/\
 ∀p H',Same H H'->SqT K H' p (xs++ys)->Q (.ref p) H'
theorem Gz:OpR X (binaryOp .Add) (TN X.K):=by
 intro pins s σ H x y v u Q I rx ry h;obtain⟨a,b,xs,ys,e1,e2,U,Y,hz,q⟩:=h
 by_cases hx:xs=[]
 .subst e1;subst e2;subst hx;cases (show v=Value.ref a from rx);cases (show u=Value.ref b from ry);obtain⟨its,r1,p1,_⟩:=I.tuple U;obtain⟨Z,r2,p2,_⟩:=I.tuple Y;cases r1;obtain⟨⟨cls,dd,ad,sl⟩,ho,hc,n,hd⟩:=id p1;obtain⟨⟨ae,aa,ac,ab⟩,G,J,n2,L⟩:=id p2;simp only at hc hd J L;subst hc hd J L;exact concat_meets ⟨_,ho,rfl⟩ ⟨_,G,rfl⟩ noFill_tuple_add seq_tuple_add PySem.F.slot_tuple_add PySem.F.entry_tuple_add (PySem.F.args_tuple_add_2 _ _)
   (tuple_addW0 a b _ Z.toArray n n2 dd aa sl ab rfl) ⟨ho,G,⟨.ref b,H,I,rfl,q b H (Same.refl H) (by simpa using Y)⟩⟩
 .refine Oy pins s σ H x y v u Q I rx ry ⟨a,b,xs,ys,e1,e2,U,Y,hx,hz,λhy=>?_,λhy p hp=>?_⟩
  .subst hy;exact q a H (Same.refl H) (by simpa using U)
  .exact q p _ (Qc hp _) (SqT.of Qb)
theorem Same.seqT{K:Fg}{H H':Hp}{a:Addr}{xs:List V}(e:Same H H')(h:SqT K H a xs):SqT K H' a xs:=by
 rcases h with(h | ⟨o,h⟩) | h
 .exact .inl (.inl (e _ _ h))
 .exact .inl (.inr ⟨o,e _ _ h⟩)
 .exact .inr h
end
section
variable{X:Cx}{tg:Expr}
end
end L2
namespace L2
open PySem PySem.Spec PyProof.Rows
def Qt(X:Cx)(N':List Str)(scope:Scope)(cl:List (38:))(C:Addr)(fp:List Addr)(s₀:Shared)(H₀:Hp):Cx:=
 { X with N:=N',s₀:=s₀,H₀:=H₀,env:=compEnvC scope cl C X.env,outer:=X.stack,ex:=fp,fn:=λ_=>false,pn:=[],xe:=λ_ _=>False }
def PF(X:Cx)(ifs:List Expr)(t:TT):Prop:=
 ∀(pins:List (8:))(s:Shared)(σ:St)(H:Hp)(Q:Bool->Hp->Prop),Inv X pins σ H s->t σ H Q->
  wpAny (3:) X.A (forIn ifs true λc r=>if r=true then do let ok <-isTrue c X.env (eval c X.env);pure (ForInStep.yield ok)else pure (ForInStep.yield r)) (TP X pins σ Q) X.xe s
theorem Q1{X:Cx}:PF X [] (λ_ H Q=>Q true H):=by
 intro pins s σ H Q I h;rw [List.forIn_nil];exact wpAny_pure ⟨H,I,h⟩
theorem Np{X:Cx}{c:Expr}{t:TT}(hc:PT X c t):PF X [c] t:=by
 intro pins s σ H Q I h;rw [List.forIn_cons];refine wpAny_bind ?_;rw [if_pos rfl];refine wpAny_bind (thn (hc pins s σ H Q I h) λok G q=>wpAny_pure ?_);dsimp only;rw [List.forIn_nil];exact wpAny_pure q
structure OwnAt(X:Cx)(pins:List (8:))(H:Hp)(s:Shared)(C:Addr):Prop where
 ns:∃m,s.heap.Ns C m
 free:H C=none
 loc:C≠X.env.locals
 above:X.s₀.heap.objs.size<=C
 cells:∀x c,X.env.cells.lookup x=some c->c≠C
 pins:∀p∈X.pn++pins,p.1≠C
theorem OwnAt.go{X:Cx}{pins:List (8:)}{σ:St}{H:Hp}{s:Shared}{C:Addr}{h':Heap}(I:Inv X pins σ H s)(o:OwnAt X pins H s C)(hb:Heap.SameBut C s.heap h'):Inv X pins σ H { s with heap:=h' }:=
 I.turned (t':=s.toks) (λb u G e=>(hb.2 b G).trans e) o.free o.loc (.inr o.above) o.cells o.pins
def Wy(n:Nat)(Pv:Nat->List V->Hp->Prop):Nat->Nat->Hp->Prop:=λi m H=>m=n-i/\i<=n/\∃ys,Pv i ys H
def L9(n:Nat)(Pv:Nat->List V->Hp->Prop)(acc:Addr)(i m:Nat):VK:=λy H5=>∃ys,H5 acc=some (.lst ys)/\ys.length<sizeLine/\∃m',m'<m/\Wy n Pv (i+1) m' (upd H5 acc (.lst (ys++[y])))
theorem QB{n:Nat}{Pv:Nat->List V->Hp->Prop}{acc:Addr}{i:Nat}{y:V}{H5:Hp}{ys:List V}(hi:i<n)(hacc:H5 acc=some (.lst ys))(hl:ys.length<5000)(hP:Pv (i+1) (ys++[y]) (upd H5 acc (.lst (ys++[y])))):L9 n Pv acc i (n-i) y H5:=
 ⟨ys,hacc,Nat.lt_trans hl (18:),n-(i+1),by lia,rfl,hi,_,hP⟩
theorem J3{n:Nat}{Pv:Nat->List V->Hp->Prop}{i:Nat}{H:Hp}{ys:List V}(hi:i<n)(hP:Pv (i+1) ys H):∃m',m'<n-i/\Wy n Pv (i+1) m' H:=⟨n-(i+1),by lia,rfl,hi,ys,hP⟩
end L2
namespace L2
open PySem PySem.Spec PyProof.Rows
end L2
namespace L2
open PySem PySem.Spec PyProof.Rows
section
variable{X:Cx}
theorem ZR:QR X (.builtin "isinstance") (λxs H Q=>∃a ys T b,xs=[.ref a,.ty T]/\SqT X.K H a ys/\PySem.W.kitOne X.K (.type "tuple") (.type T)=some b/\Q (.bl b) H):=by
 intro pins s σ H xs U Q I r h;obtain⟨a,ys,T,b,rfl,G,e,q⟩:=h;obtain⟨u,c,rfl,J,L⟩:=O2 r;cases (show c=Value.type T from L);cases (show u=Value.ref a from J);obtain⟨its,Y,p,_⟩:=I.tuple G;obtain⟨o,h1,h2,_⟩:=p;exact PySem.W.kia_one PySem.W.kitx_tuple I.kIn ⟨o,h1,h2⟩ e (44:) λtk=>⟨.bl b,H,I.tok tk,rfl,q⟩
end
end L2
namespace L2
open PySem PySem.Spec PyProof.Rows
section
variable{X:Cx}{pins:List (8:)}{σ:St}{H:Hp}{s:Shared}{h':Heap}
theorem Inv.turnedL{ch:List Addr}{t':Nat}(I:Inv X pins σ H s)(k:∀b o,b∉ch->s.heap.get? b=some o->h'.get? b=some o)(hf:∀b∈ch,UF X pins H b):Inv X pins σ H { s with heap:=h',toks:=t' }:=by
 have J:∀b u,H b=some u->b∉ch:=λb u e z=>by rw [(hf b z).1]at e;cases e
 refine I.step (g':=s.gens) (d':=s.drawn) (ch:=ch) (λb L=>?_) (λb o _ _ G e _=>k b o G e) (λb o _ _ G e _=>⟨o.slots,k b o G e⟩) (λ_ _ _ _ n=>n)
  (λb o G e=>⟨o,k b o G e⟩) (λ_ _ e=>e) (λ_ _ _ e=>e) (λb ps e=>⟨#[],by rw [e];simp⟩) (λm U=>?_) (λb u e=>?_) I.bare
 .obtain⟨Z,f1,f2,f3,f4,f5⟩:=hf b L;exact⟨f3,f1,f4,f5⟩
 .obtain⟨o,es,ep,Y,r⟩:=U;exact⟨o,es,ep,k _ o (λz=>(hf _ z).2.1 rfl) Y,r⟩
 .refine(I.hok b u e).stay (λc v G q=>k c v ?_ q) (λ_ q=>q) λ_ _ q=>q;rcases G with z | z
  .rw [z];exact J b u e
  .exact J c _ z
theorem Inv.turnedNew{ch:List Addr}{t':Nat}{a:Addr}{o:HO}(I:Inv X pins σ H s)(k:∀b o,b∉ch->s.heap.get? b=some o->h'.get? b=some o)(hf:∀b∈ch,UF X pins H b)
 (hp:s.heap.objs.size<=a) (new:ObjOk X.prog X.w (upd H a o) h' a o):Inv X pins σ (upd H a o) { s with heap:=h',toks:=t' }:=by
 have J:H a=none:=I.hok.fresh hp;have U:∀b u,H b=some u->b∉ch:=λb u e z=>by rw [(hf b z).1]at e;cases e
 have lt:∀b u,s.heap.get? b=some u->b≠a:=λb u e=>Nat.ne_of_lt (Nat.lt_of_lt_of_le (69:) hp);refine I.step (g':=s.gens) (d':=s.drawn) (ch:=ch) (λb L=>?_) (λb o _ _ G e _=>k b o G e) (λb o _ _ G e _=>⟨o.slots,k b o G e⟩) (λb u _ e n=>by rw [Qg (lt b u e)];exact n)
  (λb o G e=>⟨o,k b o G e⟩) (λb xs e=>by rw [Qg (Qd e J)];exact e) (λb u xs e=>by rw [Qg (Qd e J)];exact e) (λb ps e=>⟨#[],by rw [Qg (Qd e J),e];simp⟩) (λm Y=>?_) (λb u e=>?_) I.bare
 .obtain⟨f0,f1,f2,f3,f4,f5⟩:=hf b L;exact⟨f3,f1,f4,f5⟩
 .obtain⟨o,es,ep,Z,r⟩:=Y;exact⟨o,es,ep,k _ o (λz=>(hf _ z).2.1 rfl) Z,r⟩
 .by_cases L:b=a
  .subst L;rw [Qb]at e;cases e;exact new
  .rw [Qg L]at e;refine(I.hok b u e).stay (λc v G q=>k c v ?_ q) (λc q=>by rw [Qg (Qd q J)];exact q) λc xs q=>by rw [Qg (Qd q J)];exact q
   rcases G with z | z
   .rw [z];exact U b u e
   .exact U c _ z
end
def Itz(K:Fg)(a b:Addr)(xs ys:List V):It:=
 ⟨λi H=>SqL K H a xs/\SqL K H b ys/\i<xs.length/\i<ys.length,λi H x H'=>∃p u v,H p=none/\x=.ref p/\H'=upd H p (.tup [u,v])/\xs[i]?=some u/\ys[i]?=some v,λi H=>SqL K H a xs/\SqL K H b ys/\(xs.length<=i\/ys.length<=i)⟩
theorem M7{P:Program}{w:World}{K:Fg}{elts:List Expr}{k1:Nat}{pos:Pos}(a b z:Addr)(xs ys:List V)(TI TO i1 i2:Addr)(Ap:ZipApart z TI TO i1 i2 a b):
 Turn P w K (.Tuple elts k1 pos) (Itz K a b xs ys) [z,TI,TO,i1,i2] z (λi h=>IsZip h z TI TO .none/\IsPair h TI (.ref i1) (.ref i2)/\(∃u v,IsPair h TO u v)/\h.IsListIter i1 a i/\h.IsListIter i2 b i) where
 mem:=by simp
 obj:=λi h st c G=>by
  obtain⟨Y,J,⟨u,v,L⟩,h1,h2⟩:=st;simp only [List.mem_cons,List.mem_nil_iff,or_false]at G;rcases G with rfl | rfl | rfl | rfl | rfl
  .exact⟨_,Y,λv z=>by have Z:Data.fields _=Data.cell v:=z;cases Z⟩
  .exact⟨_,J,λv z=>by have Z:Data.seq _ _=Data.cell v:=z;cases Z⟩
  .exact⟨_,L,λv z=>by have Z:Data.seq _ _=Data.cell v:=z;cases Z⟩
  .obtain⟨o,e,c,d⟩:=h1;exact⟨o,e,λv z=>by rw [d]at z;cases z⟩
  .obtain⟨o,e,c,d⟩:=h2;exact⟨o,e,λv z=>by rw [d]at z;cases z⟩
 keep:=λi h h' st k=>by
  obtain⟨Y,J,⟨u,v,L⟩,h1,h2⟩:=st;exact⟨k z (21:) _ Y,k TI (21:) _ J,⟨u,v,k TO (21:) _ L⟩,h1.at λo e=>k i1 (21:) o e,h2.at λo e=>k i2 (21:) o e⟩
 item:=by
  intro X hP hw hK G i pins s σ H E I hf st hg;subst hP hw hK;obtain⟨Y,J,⟨u0,v0,L⟩,h1,h2⟩:=st;obtain⟨qa,qb,lx,ly⟩:=hg;obtain⟨its,rv,p,_⟩:=I.list qa;obtain⟨ad,aa,p2,_⟩:=I.list qb;have ex:xs[i]?=some xs[i]:=List.getElem?_eq_getElem lx;have ey:ys[i]?=some ys[i]:=List.getElem?_eq_getElem ly;obtain⟨u,hu,ru⟩:=rv.get ex;obtain⟨v,hv,ae⟩:=aa.get ey;refine wpAny_pyNext_zip_item Ap Y J L h1 h2 p.isList p2.isList (x:=u) (y:=v) (by simpa using hu) (by simpa using hv) λh' a1 a2 a3 a4 a5 a6 hk=>?_;refine⟨.ref s.heap.objs.size,rfl,wpAny_letOwnedTupleGo_zip (s:={ s with heap:=h' }) a1 λac af U=>?_⟩;have lt:∀{c o},s.heap.get? c=some o->c≠s.heap.objs.size:=λe=>Nat.ne_of_lt (69:);have e5:IsPair ac s.heap.objs.size u v:=(U.2 _ (Ne.symm (lt Y))).trans a5;have ab:∀c∈[z,TO,i1,i2],UF X pins H c:=λc G=>hf c (by
   simp only [List.mem_cons,List.mem_nil_iff,or_false]at G ⊢;rcases G with rfl | rfl | rfl | rfl<;>simp)
  have I2:Inv X pins σ (upd H s.heap.objs.size (.tup [xs[i],ys[i]])) { s with heap:=ac,toks:=s.toks }:=by
   refine I.turnedNew (ch:=[z,TO,i1,i2]) (λc o G e=>?_) ab (7:) ⟨by show 2<=sizeLine;decide,[u,v],.cons ru (.cons ae .nil),⟨_,e5,rfl,_,rfl⟩⟩;simp only [List.mem_cons,List.mem_nil_iff,or_false,not_or]at G;exact(U.2 c G.1).trans (hk c o G.1 G.2.1 G.2.2.1 G.2.2.2 e)
  have ag:∀c∈[z,TI,TO,i1,i2],upd H s.heap.objs.size (.tup [xs[i],ys[i]]) c=none:=λc G=>by
   have ah:=hf c G;have:c≠s.heap.objs.size:=by
    simp only [List.mem_cons,List.mem_nil_iff,or_false]at G;rcases G with rfl | rfl | rfl | rfl | rfl
    .exact lt Y
    .exact lt J
    .exact lt L
    .obtain⟨o,e,_⟩:=h1;exact lt e
    .obtain⟨o,e,_⟩:=h2;exact lt e
   rw [Qg this];exact ah.1
  exact⟨.ref s.heap.objs.size,_,I2,rfl,⟨s.heap.objs.size,_,_,I.fresh,rfl,rfl,ex,ey⟩,⟨af,U.extBut _ _ Ap.TIz (hk _ _ Ap.TIz Ap.TITO Ap.TIi1 Ap.TIi2 J),⟨_,_,U.extBut _ _ Ap.TOz a2⟩,a3.extBut U.extBut Ap.i1z,a4.extBut U.extBut Ap.i2z⟩,ag⟩
 done:=by
  intro X hP hw hK G i pins s σ H E I hf st hg;subst hP hw hK;obtain⟨Y,J,⟨u0,v0,L⟩,h1,h2⟩:=st;obtain⟨qa,qb,hl⟩:=hg;obtain⟨its,rv,p,_⟩:=I.list qa;obtain⟨ad,aa,p2,_⟩:=I.list qb;have l1:=rv.length;have l2:=aa.length;have ab:∀c∈[z,TO,i1,i2],UF X pins H c:=λc G=>hf c (by
   simp only [List.mem_cons,List.mem_nil_iff,or_false]at G ⊢;rcases G with rfl | rfl | rfl | rfl<;>simp)
  refine wpAny_pyNext_zip_end (I.ok.hd G) Ap Y J L h1 h2 p.isList p2.isList ?_ λh' hk=>⟨rfl,I.turnedL (t':=s.toks) (ch:=[z,TO,i1,i2]) (λc o G e=>?_) ab⟩
  .rcases hl with q | q
   .exact .inl (by simp;lia)
   .exact .inr (by simp;lia)
  .simp only [List.mem_cons,List.mem_nil_iff,or_false,not_or]at G;exact hk c o G.1 G.2.1 G.2.2.1 G.2.2.2 e
 self:=λ_ _ _ _ _ st h=>wpAny_pyIter_zip st.1 h
theorem nne{x y:Nat}(h:x<y\/y<x):x≠y:=by lia
section
variable{X:Cx}{elts:List Expr}{k1:Nat}{tpos:Pos}
def Af(K:Fg)(ta:TA):TI:=λσ H R=>ta σ H λvs H1=>∃a b xs ys,vs=[.ref a,.ref b]/\SqL K H1 a xs/\SqL K H1 b ys/\R (Itz K a b xs ys) H1
theorem VG{e1 e2:Expr}{ta:TA}{p pos:Pos}(hg:Gl X "zip")(hm:X.mg "zip"=none)(ha:PA X [e1,e2] ta)(hs:starEach [e1,e2] X.env=[(false,eval e1 X.env),(false,eval e2 X.env)]:=by rfl)(hs2:starEach [e2] X.env=[(false,eval e2 X.env)]:=by rfl):
 PI X (.Tuple elts k1 tpos) (.Call (.Name "zip" p) [e1,e2] [] pos) (Af X.K ta):=by
 intro pins s σ H R I h;refine Call_ (Y1 I hg hm PyProof.Rows.boot_zip (PyProof.Rows.callWith_type1 (thn (71:) λus G ⟨vs,H1,J,r1,q1⟩=>?_) (by rw [hs,hs2]) (by rw [hs2];rfl)));obtain⟨a,b,xs,ys,e,qa,qb,q⟩:=q1;subst e;obtain⟨u1,u2,e3,r3,r4⟩:=r1.two;subst e3;cases (show u1=Value.ref a from r3);cases (show u2=Value.ref b from r4);obtain⟨its,rv,pl,_⟩:=J.list qa;obtain⟨ab,ac,L,_⟩:=J.list qb;have la:@LT.lt Nat _ a G.heap.objs.size:=by obtain⟨o,n,e,_⟩:=pl;exact Heap.lt_size e
 have lb:@LT.lt Nat _ b G.heap.objs.size:=by obtain⟨o,n,e,_⟩:=L;exact Heap.lt_size e
 refine call_zip_2 pl.isList L.isList λh' Y Z aa h1 h2 ad hk=>?_;refine wpAny_pyIter_zip Y ?_;have I2:Inv X pins σ H1 { G with heap:=h' }:=J.kept (t':=G.toks) hk;refine⟨G.heap.objs.size+4,[G.heap.objs.size+4,G.heap.objs.size+2,G.heap.objs.size+3,G.heap.objs.size,G.heap.objs.size+1],_,_,H1,rfl,I2,M7 a b (G.heap.objs.size+4) xs ys (G.heap.objs.size+2) (G.heap.objs.size+3) G.heap.objs.size (G.heap.objs.size+1) ?_,⟨Y,Z,⟨_,_,aa⟩,h1,h2⟩,λc hc=>?_,q⟩
 .constructor<;>(refine nne ?_;lia)
 .have U:@LE.le Nat _ G.heap.objs.size c:=by
   simp only [List.mem_cons,List.mem_nil_iff,or_false]at hc;rcases hc with rfl | rfl | rfl | rfl | rfl<;>lia
  exact J.fpOk U (J.hok.fresh U)
theorem Xo{K:Fg}{a b:Addr}{xs ys:List V}{g:TG}{tb:TS}{D:Ends}{σ:St}{H:Hp}(hlen:xs.length=ys.length)(Pv:Nat->St->Hp->Prop)(h0:Pv 0 σ H)(hl:∀i σ H,i<=xs.length->Pv i σ H->SqL K H a xs/\SqL K H b ys)
 (hs:∀i u v p σ H,xs[i]?=some u->ys[i]?=some v->H p=none->Pv i σ H->g (.ref p) σ (upd H p (.tup [u,v])) λσ2 H2=>tb { D with nx:=Pv (i+1),ct:=Pv (i+1),bk:=D.nx } σ2 H2) (hd:∀σ H,Pv xs.length σ H->D.nx σ H):
 ∃W:Nat->Nat->St->Hp->Prop,(∃m,W 0 m σ H)/\∀i m σ H,W i m σ H->
  ((Itz K a b xs ys).stop i H/\D.nx σ H)\/((Itz K a b xs ys).go i H/\∃N:St->Hp->Prop,(40:)/\∀x H',(Itz K a b xs ys).yld i H x H'->g x σ H' λσ2 H2=>tb { D with nx:=N,ct:=N,bk:=D.nx } σ2 H2):=by
 refine⟨λi m σ H=>m=xs.length-i/\i<=xs.length/\Pv i σ H,⟨xs.length-0,rfl,Nat.zero_le _,h0⟩,?_⟩;rintro i m σ H ⟨rfl,hi,p⟩;obtain⟨J,L⟩:=hl i σ H hi p
 by_cases h:i<xs.length
 .refine .inr ⟨⟨J,L,h,by lia⟩,Pv (i+1),λσ' H' G=>⟨xs.length-(i+1),by lia,rfl,h,G⟩,?_⟩;rintro x H' ⟨G,u,v,hp,rfl,rfl,U,Y⟩;exact hs i u v G σ H U Y hp p
 .have e:i=xs.length:=by lia
  subst e;exact .inl ⟨⟨J,L,.inl (7:)⟩,hd σ H p⟩
end
end L2
namespace L2
open PySem PySem.Spec PyProof.Rows
def Y4(ns:List Int):Prop:=(∀n∈ns,0<=n)/\ns.sum<=1000000000
section
variable{X:Cx}
end
section
variable{prog:Program}{w:World}{A:Around}{R:Result->Shared->Prop}{I:Addr}{fp wr:List Addr}{n:Nat}{P:Nat->Value->Prop}{St:Nat->Heap->Prop}
end
section
variable{prog:Program}{w:World}{A:Around}{E:Value->Shared->Prop}{s:Shared}
end
end L2
namespace L2
open PySem PySem.Spec PyProof.Rows
section
variable{X:Cx}{x:Str}{p pos:Pos}{e:Expr}{es:List Expr}{kws:List Keyword}{t tk:TA}{id:String}{ks:List Str}{r:List V->List V->Hp->VK->Prop}
end
end L2
namespace L2
open PySem PySem.Spec PyProof.Rows
structure CompG(X:Cx)(xs caps:List Str)(cap:List Nat)(scope:Scope)(cl:List (38:)):Prop where
 clos:closureFor scope X.env=pure cl
 cell:∀y∈scope.names,y.2≠.cell
 kind:scope.kind=.function
 names:∀y∈scope.names,y.2=.local->scope.names.lookup y.1=some .local
 lx:∀x∈xs,scope.names.lookup x=some .local
 nd:(xs++caps).Nodup
 from_:∀y c,cl.lookup y=some c->X.env.cells.lookup y=some c
 has:∀y,((relabel scope X.env).names.lookup y=some .cell\/(relabel scope X.env).names.lookup y=some .free)->∃c,cl.lookup y=some c
 len:cap.length=caps.length
 cps:∀(i:Nat)(y:Str),caps[i]?=some y->∃j,cap[i]?=some j/\X.N[j]?=some y/\X.env.scope.names.lookup y=some .cell/\(relabel scope X.env).names.lookup y=some .cell
def JH(cap:List Nat)(σ:St):St:=cap.map λj=>(σ[j]?).getD none
def Z9(n:Nat)(wi:TI)(cap:List Nat)(g:TG)(tt:TT)(te:TE):TE:=λσ H Q=>wi σ H λJ H1=>∀acc,H1 acc=none->∃W:Nat->Nat->Hp->Prop,(∃m,W 0 m (upd H1 acc (.lst [])))/\∀i m H2,W i m H2->
 (J.stop i H2/\Q (.ref acc) H2)\/(J.go i H2/\∀x H3,J.yld i H2 x H3->∀as:St,as.length=n->g x (as++JH cap σ) H3 λσ4 H4=>(∃bs:St,bs.length=n/\σ4=bs++JH cap σ)/\tt σ4 H4 λok H5=>if ok=true then
  te σ4 H5 (43:)
  else ∃m',m'<m/\W (i+1) m' H5)
theorem Us{X:Cx}{elt iter tg:Expr}{xs:List Str}{ifs:List Expr}{scope:Scope}{pos pos':Pos}{wi:TI}{g:TG}{tt:TT}{te:TE}{cl:List (38:)}{caps:List Str}{cap:List Nat}
 (O:CompG X xs caps cap scope cl) (hc:X.calm=true) (hi:PI X tg iter wi) (hg:∀C fp s₀ H₀,PG (12:) tg g)
 (ht:∀C fp s₀ H₀,PF (12:) ifs tt)
 (hs:∀x,foldedSetIterable iter X.env x=pure x) {pins:List (8:)} {s:Shared} {σ:St} {H:Hp} {Q:VK} {use:Option (Value->Sem Unit)} {QQ:Value->Shared->Prop} (I:Inv X pins σ H s)
 (h:Z9 xs.length wi cap g tt te σ H Q)
 (hfin:∀D C H' s',Inv X pins σ H' s'->OwnAt X pins H' s' C->Q (.ref D) H'->compPost (3:) X.A X.xe use QQ (.ref D) C (.ok .next) s')
 (hw:∀{fp:List Addr}{s3:Shared}{H3:Hp}{D:Value}{p9:List (8:)}{s9:Shared}{σ9:St}{H9:Hp}{Q9:VK},Inv X pins σ H3 s3->(∀b∈fp,(73:)/\b≠X.env.locals/\(60:)/\∀p∈X.pn++pins,p.1≠b)->Inv (16:) p9 σ9 H9 s9->te σ9 H9 Q9->
  wpAny (3:) X.A (eval elt (45:)) (EP (16:) p9 σ9 Q9) (notedBy (3:) X.A (45:) (λx s'=>compPost (3:) X.A X.xe use QQ D s3.heap.objs.size (.error x) s')) s9):
 wpAny (3:) X.A (89:) QQ X.xe s:=by
 refine wpAny_comprehension_free rfl hs O.clos O.kind O.names (thn (hi pins s σ H _ I h) λv s1 h1=>thn h1 λbq Y h2=>?_);obtain⟨it,fp,tn,J,H1,e,I2,T,t0,f2,hR⟩:=h2;subst e;refine wpAny_newObj_type (wpAny_newFunctionEnv O.cell (by intro y hy;simp at hy) (λan ap aq=>?_) O.kind);have ah:H1 Y.heap.objs.size=none:=I2.fresh;obtain⟨W,⟨m0,w0⟩,ai⟩:=hR Y.heap.objs.size ah;have L:Inv X pins σ (upd H1 Y.heap.objs.size (.lst [])) { Y with heap:=Y.heap.push { cls:=.type "list",data:=.seq ([]:List Value).toArray } }:=I2.lnew (t':=Y.toks) (ys:=[]) (its:=[]) .nil (Nat.zero_le _);generalize ar:({ Y with heap:=Y.heap.push { cls:=.type "list",data:=.seq ([]:List Value).toArray } }:Shared)=s3 at ap aq L ⊢;generalize hD:Y.heap.objs.size=D at L w0 ai ah ⊢;generalize a8:upd H1 D (.lst [])=H3 at L w0;have U:∀b o,s3.heap.get? b=some o->an.get? b=some o:=λb o e=>(aq.2 b (Nat.ne_of_lt (69:))).trans (Heap.get?_push_of_some _ e);have a1:∀b∈fp,H3 b=none:=λb G=>by
  rw [<-a8,Qg]
  .exact(f2 b G).1
  .intro z;obtain⟨o,e,_⟩:=T.obj _ _ t0 b G;exact absurd (69:) (by rw [z,hD];exact Nat.lt_irrefl _)
 have ag:H3 s3.heap.objs.size=none:=L.fresh;have aj:∀b∈fp,b≠s3.heap.objs.size:=λb G z=>by
  obtain⟨o,e,_⟩:=T.obj _ _ t0 b G;have h2:s3.heap.objs.size=Y.heap.objs.size+1:=by rw [<-ar];exact Heap.size_push ..
  exact absurd (69:) (by rw [z,h2];exact Nat.not_lt.mpr (Nat.le_succ _))
 have t3:tn 0 an:=T.keep _ _ _ t0 λb G o e=>U b o (by rw [<-ar];exact Heap.get?_push_of_some _ e);have au:(16:).Ok:=by
  refine⟨L.ok.mod,O.kind,L.ok.glob,L.ok.blt,Nat.le_refl _,λy z c e1 e2=>L.ok.inj y z c (O.from_ y c e1) (O.from_ z c e2),λy hy=>O.has y hy,λy c z _=>(nomatch z),L.ok.hd,L.ok.frames,.inl rfl,λb G=>⟨aj b G,λy c e=>?_⟩,L.bs,Nat.le_trans L.ok.bsz L.sz,λb o e G=>?_,λb G z=>?_,L.stack,L.stkFree⟩
  .exact(f2 b G).2.2.2.2.1 y c (O.from_ y c e)
  .rcases(f2 b G).2.2.2.1 with q | q
   .exact L.ok.noex b o e q
   .exact absurd (Nat.lt_of_lt_of_le (69:) (Nat.le_trans L.ok.bsz q)) (Nat.lt_irrefl _)
  .rcases List.mem_cons.mp (L.stkSub b z)with q | q
   .exact(f2 b G).2.1 q
   .exact(f2 b G).2.2.1 q
 have I4:Inv (16:) [] (List.replicate xs.length none++JH cap σ) H3 { s3 with heap:=an,toks:=s3.toks+([]:List (Str×Value)).length }:=by
  obtain⟨m,hn,hl⟩:=id L.loc;refine⟨au,rfl,L.bare,Un.kept U,⟨_,ap,λi y v e1 e2 e3=>?_⟩,λy c e=>?_,ag,λy c e=>L.freeC y c (O.from_ y c e),λp hp=>(nomatch hp),L.hok.kept U,?_⟩
  .by_cases av:i<xs.length
   .rw [List.getElem?_append_left (by rw [List.length_replicate];exact av),List.getElem?_replicate,if_pos av]at e2;cases e2
   .have a9:caps[i-xs.length]?=some y:=by
     have a3:(xs++caps)[i]?=some y:=e1
     rwa [List.getElem?_append_right (6:)]at a3
    obtain⟨j,hj,hN,hk,aw⟩:=O.cps _ y a9;have ae:(σ[j]?).getD none=some v:=by
     rw [List.getElem?_append_right (by rw [List.length_replicate];lia),List.length_replicate]at e2;unfold JH at e2
     simpa [hj]using e2
    have a4:σ[j]?=some (some v):=by
     cases q:σ[j]? with
     | none=>rw [q]at ae;cases ae
     | some a=>rw [q]at ae;exact congrArg some ae
    obtain⟨u,r,l⟩:=hl j y v hN a4 (.inr (.inl hk));refine⟨u,r,?_⟩;rcases l with⟨k,_⟩ | ⟨k,c,e,z⟩
    .have k':X.env.scope.names.lookup y=some .local:=k;rw [hk]at k';cases k'
    .obtain⟨c',ax⟩:=O.has y (.inl aw);have:c'=c:=Option.some.inj ((O.from_ y c' ax).symm.trans e);subst this;refine .inr ⟨.inl aw,c',ax,?_⟩;obtain⟨o,ho,hd⟩:=z;exact⟨o,U _ _ ho,hd⟩
  .obtain⟨v,o,ho,hd⟩:=L.cell y c (O.from_ y c e);exact⟨v,o,U _ _ ho,hd⟩
  .show(List.replicate xs.length none++JH cap σ).length=(xs++caps).length;simp [JH,O.len]
 have fin:∀(H':Hp)(ba:St)(s':Shared),Inv (16:) [] ba H' s'->Q (.ref D) H'->
  compPost (3:) X.A X.xe use QQ (.ref D) s3.heap.objs.size (.ok .next) s':=λH' ba s' I' q=>by
  obtain⟨m,hn,_⟩:=id I'.loc;have hU:Un (frs X.stack) fp H3 H' s3.heap s'.heap:=I'.base;have a5:HOk X.prog X.w H' s'.heap:=I'.hok;have bb:s'.os=s3.os:=I'.os;have I6:Inv X pins σ H' s':=L.call' (ch:=fp) bb hU a5 I'.bare (λb G=>⟨(f2 b G).2.2.2.1,(f2 b G).2.1,(f2 b G).2.2.2.2⟩);refine hfin D _ H' s' I6 ⟨⟨m,hn⟩,I'.free,Nat.ne_of_gt L.lt,L.sz,λy c e z=>?_,λp hp z=>?_⟩ q
  .obtain⟨v,hv⟩:=L.cell y c e;exact absurd hv.lt (by rw [z];exact Nat.lt_irrefl _)
  .exact absurd (Heap.lt_size (L.pin p hp).1) (by rw [z];exact Nat.lt_irrefl _)
 have ad:∀{H':Hp},(∀b∈fp,H' b=none)->∀b∈fp,UF (16:) [] H' b:=λhn b G=>
  ⟨hn b G,aj b G,au.exfs b G,.inl G,λy c e=>(f2 b G).2.2.2.2.1 y c (O.from_ y c e),λp hp=>(nomatch hp)⟩
 have ak:codeAny (3:) X.A (.compLoop (15:) 0 (.ref it) (.ref D) (45:))
  (compPost (3:) X.A X.xe use QQ (.ref D) s3.heap.objs.size) { s3 with heap:=an,toks:=s3.toks+([]:List (Str×Value)).length }:=by
  refine codeAny_loop rfl (λn s'=>∃i as H',as.length=xs.length/\Inv (16:) [] (as++JH cap σ) H' s'/\tn i s'.heap/\(∀b∈fp,H' b=none)/\W i n H') ?_ m0 ⟨0,_,H3,List.length_replicate,I4,t3,a1,w0⟩;rintro n s5 ⟨i,as,H5,bc,I5,ay,az,w5⟩;show wpAny _ _ ((compTurn (15:) 0 (.ref it) (.ref D) (45:)).onRaise (λx=>do noteFrame x (45:);theTreesLotGoes x)) _ _ s5;refine wpAny_noted ?_;rw [compTurn_list];refine wpAny_bind (wpAny_standAt (wpAny_bind ?_));have Z:∀{M:Model}{A:Around}{α:Type}{t:Sem α}{P:α->Shared->Prop}{E':Value->Shared->Prop}{s':Shared},wpAny M A t P (λ_ _=>False) s'->wpAny M A t P E' s':=λh=>wpAny_mono h (λ_ _ q=>q) λ_ _ z=>z.elim;rcases ai i n H5 w5 with⟨stop,qn⟩ | ⟨go,step⟩
  .refine Z (thn (T.done (16:) rfl rfl rfl hc i [] s5 _ H5 (λ_ _=>False) I5 (ad az) ay stop) λr s6 ⟨hr,I6⟩=>?_);subst hr;exact wpAny_pure (fin H5 _ s6 I6 qn)
  .refine Z (thn (T.item (16:) rfl rfl rfl hc i [] s5 _ H5 (λ_ _=>False) I5 (ad az) ay go) λr s6 ⟨u,hr,h6⟩=>?_);subst hr;refine wpAny_bind (Z (thn h6 λ_ s7 ⟨y,H7,I7,r7,y7,al,bd⟩=>?_));have be:=I7.pinned (ad bd) (T.obj _ _ al);have a6:=step y H7 y7 as bc;refine wpAny_bind (Z (thn (hg s3.heap.objs.size fp s3 H3 _ s7 _ H7 y _ _ be r7 a6) λ_ s8 ⟨bt,H8,I8,⟨bs,bf,bp⟩,ao⟩=>?_));subst bp;refine wpAny_bind (Z (thn (ht s3.heap.objs.size fp s3 H3 _ s8 _ H8 _ I8 ao) λbg s9 ⟨H9,I9,q9⟩=>?_));have af:∀{aa:Hp}{ab:Shared}{m':Nat},Inv (16:) ([]++Jr fp s7.heap) (bs++JH cap σ) aa ab->m'<n->W (i+1) m' aa->
    ∃m,m<n/\∃i as H',as.length=xs.length/\Inv (16:) [] (as++JH cap σ) H' ab/\tn i ab.heap/\(∀b∈fp,H' b=none)/\W i m H':=λ{aa ab m'} ac hm am=>by
    refine⟨m',hm,i+1,bs,aa,bf,ac.unpinned,T.keep _ _ _ al λb G o e=>(ac.pin (b,o) (List.mem_append_right _ (List.mem_append_right _ (ZT G e)))).1,λb G=>?_,am⟩;obtain⟨o,e,d⟩:=T.obj _ _ al b G;exact(ac.pin (b,o) (List.mem_append_right _ (List.mem_append_right _ (ZT G e)))).2.1
   cases bg with
   | false=>
    rw [if_neg Bool.false_ne_true]at q9;obtain⟨m',hm,w9⟩:=q9;exact wpAny_pure ⟨rfl,af I9 hm w9⟩
   | true=>
    rw [if_pos rfl]at q9;refine wpAny_bind (wpAny_bind (thn (hw L (λb G=>⟨(f2 b G).2.2.2.1,(f2 b G).2.1,(f2 b G).2.2.2.2⟩) I9 q9) λyv ab ⟨yy,aa,ac,bi,ys,bj,a7,m',hm,am⟩=>?_));refine wpAny_bind (Z (thn (ZG (X:=Qt X (xs++caps) scope cl s3.heap.objs.size fp s3 H3) _ ab _ aa (.ref D) [yy] (.ref D) [yv] (λ_ a0=>W (i+1) m' a0) ac rfl (.cons bi .nil) ⟨D,ys,yy,rfl,rfl,bj,a7,am⟩) λ_ br ⟨_,a0,bn,_,bo⟩=>?_));exact wpAny_pure (wpAny_pure ⟨rfl,af bn hm bo⟩)
 refine codeAny_compStart_list ak (T.self _ 0 _ _ _ t3 ak)
theorem Jw{X:Cx}{elt iter tg:Expr}{xs:List Str}{ifs:List Expr}{scope:Scope}{pos pos':Pos}{wi:TI}{g:TG}{tt:TT}{te:TE}{cl:List (38:)}{caps:List Str}{cap:List Nat}
 (O:CompG X xs caps cap scope cl) (hc:X.calm=true) (hi:PI X tg iter wi) (hg:∀C fp s₀ H₀,PG (12:) tg g)
 (ht:∀C fp s₀ H₀,PF (12:) ifs tt) (he:∀C fp s₀ H₀,PE (12:) elt te)
 (hs:∀x,foldedSetIterable iter X.env x=pure x) {pins:List (8:)} {s:Shared} {σ:St} {H:Hp} {Q:VK} {use:Option (Value->Sem Unit)} {QQ:Value->Shared->Prop} (I:Inv X pins σ H s)
 (h:Z9 xs.length wi cap g tt te σ H Q)
 (hfin:∀D C H' s',Inv X pins σ H' s'->OwnAt X pins H' s' C->Q (.ref D) H'->compPost (3:) X.A X.xe use QQ (.ref D) C (.ok .next) s'):
 wpAny (3:) X.A (89:) QQ X.xe s:=
 Us O hc hi hg ht hs I h hfin λ_ _ G J=>wpAny_mono (he _ _ _ _ _ _ _ _ _ G J) (λ_ _ q=>q) λ_ _ L=>L.elim
theorem QH{X:Cx}{elt iter tg:Expr}{xs:List Str}{ifs:List Expr}{scope:Scope}{pos:Pos}{wi:TI}{g:TG}{tt:TT}{te:TE}{cl:List (38:)}{caps:List Str}{cap:List Nat}
 (O:CompG X xs caps cap scope cl) (hc:X.calm=true) (hi:PI X tg iter wi) (hg:∀C fp s₀ H₀,PG (12:) tg g)
 (ht:∀C fp s₀ H₀,PF (12:) ifs tt) (he:∀C fp s₀ H₀,PE (12:) elt te)
 (hs:∀x,foldedSetIterable iter X.env x=pure x:=by intro _;rfl):
 PE X (15:) (Z9 xs.length wi cap g tt te):=by
 intro pins s σ H Q I h;rw [eval_ListComp];exact Jw (use:=none) O hc hi hg ht he hs I h λD C H' s' G o q=>by
  obtain⟨m,J⟩:=o.ns;exact⟨m,J,λh' L=>⟨.ref D,H',o.go G L,rfl,q⟩⟩
theorem VQ{X:Cx}{elt iter tg:Expr}{xs:List Str}{y:Str}{py:Pos}{ifs:List Expr}{scope:Scope}{pos spos:Pos}{wi:TI}{g:TG}{tt:TT}{te:TE}{cl:List (38:)}{caps:List Str}{cap:List Nat}{i:Nat}
 (O:CompG X xs caps cap scope cl) (hc:X.calm=true) (hi:PI X tg iter wi) (hg:∀C fp s₀ H₀,PG (12:) tg g)
 (ht:∀C fp s₀ H₀,PF (12:) ifs tt) (he:∀C fp s₀ H₀,PE (12:) elt te)
 (hN:X.N.Nodup) (hy:X.N[i]?=some y) (hl:X.env.scope.names.lookup y=some .local)
 (hsw:swapsWith (15:) (some (.Name y py)) spos.line X.env=pure true:=by rfl)
 (hs:∀x,foldedSetIterable iter X.env x=pure x:=by intro _;rfl):
 PS X (.Assign [.Name y py] (15:) spos) (NR (Z9 xs.length wi cap g tt te) (Q3 i)):=by
 intro pins s σ H D I h;rw [exec_Assign_Name_used _ _ _ _ hsw];refine wpAny_bind (wpAny_standAt (wpAny_bind ?_));show wpAny _ X.A (do let _ <-comprehension (15:) scope X.env _ (newList []) false (eval iter X.env) (some (assign (.Name y py) X.env))) _ _ s;refine wpAny_bind (thn (Jw (use:=some (assign (.Name y py) X.env)) (QQ:=λ_ s'=>SP X pins D .next s') O hc hi hg ht he hs I h λDd C H' s' U o q=>?_) λ_ s' Y=>wpAny_pure (wpAny_pure Y));obtain⟨m,L⟩:=o.ns;show wpAny _ X.A (assign (.Name y py) X.env (.ref Dd)) _ _ s';refine wpAny_assign_Name (Ue (v:=.ref Dd) U hN hy (.inl hl) rfl (λZ I2 G=>?_) (.inr hl));obtain⟨a,G,ha⟩:=G;have J:C≠a:=by
  rcases ha with z | z
  .rw [z];exact o.loc
  .exact Ne.symm (o.cells y a z)
 have o2:OwnAt X pins H' Z C:=⟨⟨m,L.sameBut G J⟩,o.free,o.loc,o.above,o.cells,o.pins⟩;refine⟨m,L.sameBut G J,λh' hb=>?_⟩;exact⟨_,H',o2.go I2 hb,q⟩
section
variable{X:Cx}{xs caps:List Str}{cap:List Nat}{scope:Scope}{cl:List (38:)}
theorem Z7{x:Str}{px:Pos}(O:CompG X [x] caps cap scope cl):∀C fp s₀ H₀,PG (Qt X ([x]++caps) scope cl C fp s₀ H₀) (.Name x px) (Q3 0):=λC fp s₀ H₀=>
 Qw (X:=Qt X ([x]++caps) scope cl C fp s₀ H₀) (i:=0) O.nd rfl (.inl (lookup_relabel_local (O.lx x (21:)))) (.inr (lookup_relabel_local (O.lx x (21:))))
theorem Gp{x y:Str}{px py pos:Pos}{k:Nat}(O:CompG X [x,y] caps cap scope cl)(hc:X.calm=true):∀C fp s₀ H₀,PG (Qt X ([x,y]++caps) scope cl C fp s₀ H₀) (.Tuple [.Name x px,.Name y py] k pos) (PJ X.K 2 (JP (Q3 0) (JP (Q3 1) N7))):=λC fp s₀ H₀=>
 ZA (X:=Qt X ([x,y]++caps) scope cl C fp s₀ H₀) hc (QA (Qw (i:=0) O.nd rfl (.inl (lookup_relabel_local (O.lx x (21:)))) (.inr (lookup_relabel_local (O.lx x (21:)))))
  (QA (Qw (i:=1) O.nd rfl (.inl (lookup_relabel_local (O.lx y (21:)))) (.inr (lookup_relabel_local (O.lx y (21:))))) Zh))
end
theorem JN{k:NameKind}{y:Str}:∀{l:List (Str×NameKind)},l.lookup y=some k->(y,k)∈l
 | [],h=>by simp at h
 | (n,j)::r,h=>by
  cases G:y==n with
  | true=>
   simp only [List.lookup_cons,G]at h;have:y=n:=by simpa using G
   cases h;rw [this];exact List.mem_cons_self
  | false=>
   simp only [List.lookup_cons,G]at h;exact List.mem_cons_of_mem _ (JN h)
theorem JC{y:Str}{c:Addr}:∀{l:List (38:)},l.lookup y=some c->(y,c)∈l
 | [],h=>by simp at h
 | (n,j)::r,h=>by
  cases G:y==n with
  | true=>
   simp only [List.lookup_cons,G]at h;have:y=n:=by simpa using G
   cases h;rw [this];exact List.mem_cons_self
  | false=>
   simp only [List.lookup_cons,G]at h;exact List.mem_cons_of_mem _ (JC h)
theorem UP{y:Str}{c:Addr}:∀{l:List (38:)},(y,c)∈l->∃c',l.lookup y=some c'
 | [],h=>by cases h
 | (n,j)::r,h=>by
  cases G:y==n with
  | true=>exact⟨j,by simp only [List.lookup_cons,G]⟩
  | false=>
   simp only [List.lookup_cons,G];rcases List.mem_cons.mp h with z | z
   .have:y=n:=congrArg Prod.fst z;rw [this]at G;simp at G
   .exact UP z
theorem YQ{env:Env}{y:Str}(hf:env.scope.kind=.function)(hy:env.kindOf y=some .cell):∀{names:List (Str×NameKind)},names.lookup y=some .free->
 (names.map λ(n,k)=>if(k==NameKind.free&&env.scope.kind== .function&&env.kindOf n==some .cell)then(n,NameKind.cell)else(n,k)).lookup y=some .cell
 | [],h=>by simp at h
 | (n,k)::r,h=>by
  show List.lookup y ((if(k==NameKind.free&&env.scope.kind== .function&&env.kindOf n==some .cell)=true then(n,NameKind.cell)else(n,k))::_)=_;cases G:y==n with
  | true=>
   simp only [List.lookup_cons,G]at h;have e:y=n:=by simpa using G
   cases h;rw [<-e,hf,hy];simp
  | false=>
   simp only [List.lookup_cons,G]at h;have J:=YQ hf hy h;split
   .simp only [List.lookup_cons,G];exact J
   .simp only [List.lookup_cons,G];exact J
def Q2(names:List (Str×NameKind)):List Str:=names.filterMap λz=>if z.2==NameKind.free then some z.1 else none
theorem Yw{env:Env}:∀(names:List (Str×NameKind))(caps:List Str)(cs:List Addr)(acc:List (38:)),Q2 names=caps->caps.map (λy=>env.cells.lookup y)=cs.map some->
 (forIn names acc λ(x:Str×NameKind)(r:List (38:))=>(if(x.2==NameKind.free)=true then do let a <-cellOf env x.1;pure (ForInStep.yield ((x.1,a)::r))else pure (ForInStep.yield r):Sem (ForInStep (List (38:)))))=(pure ((caps.zip cs).reverse++acc):Sem (List (38:)))
 | [],caps,cs,acc,h1,h2=>by
  have:caps=[]:=h1.symm;subst this;simp
 | (n,k)::r,caps,cs,acc,h1,h2=>by
  rw [List.forIn_cons]
  by_cases G:(k==NameKind.free)=true
  .have e1:caps=n::Q2 r:=by
    rw [<-h1];unfold Q2;rw [List.filterMap_cons];simp only [G,if_true]
   subst e1;cases cs with
   | nil=>simp at h2
   | cons c cs=>
    simp only [List.map_cons,List.cons.injEq]at h2;have J:cellOf env n=pure c:=by unfold cellOf;rw [h2.1]
    simp only [G,if_true,J,pure_bind];rw [Yw r _ cs ((n,c)::acc) rfl h2.2];simp
  .have e1:caps=Q2 r:=by
    rw [<-h1];unfold Q2;rw [List.filterMap_cons];simp only [G]
    rfl
   subst e1;simp only [G,if_false,pure_bind];exact Yw r _ cs acc rfl h2
theorem UB{env:Env}{scope:Scope}{caps:List Str}{cs:List Addr}(hf:Q2 scope.names=caps)(hc:caps.map (λy=>env.cells.lookup y)=cs.map some):closureFor scope env=pure (caps.zip cs).reverse:=by
 have h:=Yw (env:=env) scope.names caps cs [] hf hc;rw [List.append_nil]at h;unfold closureFor;simp only [bind_pure];exact h
theorem CompG.many{X:Cx}{xs caps:List Str}{cap:List Nat}{cs:List Addr}{scope:Scope}(hk:scope.kind=.function)(hf:X.env.scope.kind=.function)(hfr:Q2 scope.names=caps)
 (hnc:∀z∈scope.names,z.2≠.cell) (hl:∀y∈scope.names,y.2=.local->scope.names.lookup y.1=some .local) (hlx:∀x∈xs,scope.names.lookup x=some .local) (hnd:(xs++caps).Nodup)
 (hfl:∀y∈caps,scope.names.lookup y=some .free) (hce:caps.map (λy=>X.env.scope.names.lookup y)=caps.map λ_=>some .cell) (hcs:caps.map (λy=>X.env.cells.lookup y)=cs.map some)
 (hN:cap.map (λj=>X.N[j]?)=caps.map some):CompG X xs caps cap scope (caps.zip cs).reverse:=by
 have ac:caps.length=cs.length:=by simpa using congrArg List.length hcs
 have U:∀(i:Nat)(y:Str),caps[i]?=some y->∃c,cs[i]?=some c/\X.env.cells.lookup y=some c:=λi y h=>by
  have e:=congrArg (λl=>l[i]?) hcs;simp only [List.getElem?_map,h]at e;cases q:cs[i]? with
  | none=>rw [q]at e;simp at e
  | some c=>rw [q]at e;exact⟨c,rfl,by simpa using e⟩
 refine⟨UB hfr hcs,hnc,hk,hl,hlx,hnd,λy c h=>?_,λy h=>?_,?_,λi y h=>?_⟩
 .have L:=JC h;rw [List.mem_reverse]at L;obtain⟨i,hi,e⟩:=List.getElem_of_mem L;have aa:i<caps.length:=by rw [List.length_zip]at hi;lia
  have Y:i<cs.length:=by rw [List.length_zip]at hi;lia
  rw [List.getElem_zip]at e;obtain⟨c',e1,e2⟩:=U i caps[i] (List.getElem?_eq_getElem aa);have e3:caps[i]=y:=congrArg Prod.fst e;have e4:cs[i]=c:=congrArg Prod.snd e;rw [List.getElem?_eq_getElem Y,e4]at e1;cases e1;rw [<-e3];exact e2
 .have L:y∈caps:=by
   have Z:∀k:NameKind,(k=.cell\/k=.free)->(relabel scope X.env).names.lookup y=some k->y∈caps:=λk hk h=>by
    have h1:=JN h;obtain⟨z,hz,e⟩:=List.mem_map.mp h1;obtain⟨n,kk⟩:=z;have G:kk=.free/\n=y:=by
     dsimp only at e;split at e
     .rename_i q;simp only [Bool.and_eq_true]at q;exact⟨by simpa using q.1.1,congrArg Prod.fst e⟩
     .have e2:kk=k:=congrArg Prod.snd e;refine⟨?_,congrArg Prod.fst e⟩;rcases hk with z | z
      .exact absurd (e2.trans z) (hnc _ hz)
      .exact e2.trans z
    rw [<-hfr];refine List.mem_filterMap.mpr ⟨(n,kk),hz,?_⟩;rw [G.1,G.2];rfl
   rcases h with h | h
   .exact Z _ (.inl rfl) h
   .exact Z _ (.inr rfl) h
  obtain⟨i,hi,e⟩:=List.getElem_of_mem L;have Y:i<cs.length:=by lia
  refine UP (c:=cs[i]) ?_;rw [List.mem_reverse];have ab:i<(caps.zip cs).length:=by rw [List.length_zip];lia
  have:=List.getElem_mem ab;rw [List.getElem_zip,e]at this;exact this
 .have:=congrArg List.length hN
  simpa using this
 .have e:=congrArg (λl=>l[i]?) hN;simp only [List.getElem?_map,h]at e;have L:=List.mem_of_getElem? h;cases q:cap[i]? with
  | none=>rw [q]at e;simp at e
  | some j=>
   rw [q]at e;have J:X.env.scope.names.lookup y=some .cell:=by
    have e2:=congrArg (λl=>l[i]?) hce
    simpa only [List.getElem?_map,h,Option.map_some,Option.some.injEq]using e2
   exact⟨j,rfl,by simpa using e,J,YQ hf J (hfl y L)⟩
theorem Zw{J:It}{n N:Nat}{cs:St}{g:TG}{tt:TT}{te:TE}{H1:Hp}{acc:Addr}{Q:Hp->Prop}(Pv:Nat->List V->Hp->Prop)(h0:Pv 0 [] (upd H1 acc (.lst [])))
 (hstop:∀ys H,Pv N ys H->J.stop N H/\Q H)
 (hstep:∀i ys H,i<N->Pv i ys H->J.go i H/\∀x H3,J.yld i H x H3->∀as:St,as.length=n->g x (as++cs) H3 λσ4 H4=>(∃bs:St,bs.length=n/\σ4=bs++cs)/\tt σ4 H4 λok H5=>if ok=true then te σ4 H5 (L9 N Pv acc i (N-i))else ∃m',m'<N-i/\Wy N Pv (i+1) m' H5):
 ∃W:Nat->Nat->Hp->Prop,(∃m,W 0 m (upd H1 acc (.lst [])))/\∀i m H2,W i m H2->
  (J.stop i H2/\Q H2)\/(J.go i H2/\∀x H3,J.yld i H2 x H3->∀as:St,as.length=n->g x (as++cs) H3 λσ4 H4=>(∃bs:St,bs.length=n/\σ4=bs++cs)/\tt σ4 H4 λok H5=>if ok=true then
   te σ4 H5 (43:)
   else ∃m',m'<m/\W (i+1) m' H5):=by
 refine⟨Wy N Pv,⟨N-0,rfl,Nat.zero_le _,[],h0⟩,?_⟩;rintro i m H2 ⟨rfl,hi,ys,p⟩
 by_cases h:i<N
 .exact .inr (hstep i ys H2 h p)
 .have e:i=N:=by lia
  subst e;exact .inl (hstop ys H2 p)
abbrev Lo(N:Nat)(Pv:Nat->List V->Hp->Prop)(acc:Addr)(i:Nat)(te:TE)(σ:St):Bool->Hp->Prop:=λok H5=>if ok=true then te σ H5 (L9 N Pv acc i (N-i))else ∃m',m'<N-i/\Wy N Pv (i+1) m' H5
abbrev Uz(J:It)(n:Nat)(cs:St)(g:TG)(tt:TT)(te:TE)(H1:Hp)(acc:Addr)(Q:Hp->Prop):Prop:=
 ∃W:Nat->Nat->Hp->Prop,(∃m,W 0 m (upd H1 acc (.lst [])))/\∀i m H2,W i m H2->
  (J.stop i H2/\Q H2)\/(J.go i H2/\∀x H3,J.yld i H2 x H3->∀as:St,as.length=n->g x (as++cs) H3 λσ4 H4=>(∃bs:St,bs.length=n/\σ4=bs++cs)/\tt σ4 H4 λok H5=>if ok=true then
   te σ4 H5 (43:)
   else ∃m',m'<m/\W (i+1) m' H5)
section
variable{K:Fg}{a b acc:Addr}{xs zs:List V}{tt:TT}{te:TE}{cs:St}{H1:Hp}{Q:Hp->Prop}
theorem Yl(Pv:Nat->List V->Hp->Prop)(h0:Pv 0 [] (upd H1 acc (.lst [])))(hl:∀i ys H,i<=xs.length->Pv i ys H->SqL K H a xs)
 (hs:∀i x ys H,i<xs.length->xs[i]?=some x->Pv i ys H->tt (some x::cs) H (Lo xs.length Pv acc i te (some x::cs))) (hd:∀ys H,Pv xs.length ys H->Q H):Uz (Itl K a) 1 cs (Q3 0) tt te H1 acc Q:=by
 refine Zw Pv h0 (λys H p=>⟨⟨xs,hl _ _ _ (7:) p,Nat.le_refl _⟩,hd ys H p⟩) λi ys H hi p=>(87:);rintro x Y ⟨rfl,L⟩ U G;obtain⟨J,rfl⟩: ∃J,U=[J]:=List.length_eq_one_iff.mp G;exact⟨⟨[some x],rfl,rfl⟩,hs i x ys _ hi (L xs (hl _ _ _ (Nat.le_of_lt hi) p)) p⟩
theorem XX(Pv:Nat->List V->Hp->Prop)(h0:Pv 0 [] (upd H1 acc (.lst [])))(hl:∀i ys H,i<=xs.length->Pv i ys H->SqT K H a xs)
 (hs:∀i x ys H,i<xs.length->xs[i]?=some x->Pv i ys H->tt (some x::cs) H (Lo xs.length Pv acc i te (some x::cs))) (hd:∀ys H,Pv xs.length ys H->Q H):Uz (Itt K a) 1 cs (Q3 0) tt te H1 acc Q:=by
 refine Zw Pv h0 (λys H p=>⟨⟨xs,hl _ _ _ (7:) p,Nat.le_refl _⟩,hd ys H p⟩) λi ys H hi p=>(87:);rintro x Y ⟨rfl,L⟩ U G;obtain⟨J,rfl⟩: ∃J,U=[J]:=List.length_eq_one_iff.mp G;exact⟨⟨[some x],rfl,rfl⟩,hs i x ys _ hi (L xs (hl _ _ _ (Nat.le_of_lt hi) p)) p⟩
theorem YS{lo:Int}{n:Nat}(Pv:Nat->List V->Hp->Prop)(h0:Pv 0 [] (upd H1 acc (.lst [])))
 (hs:∀i ys H,i<n->Pv i ys H->tt (some (.int (lo+i))::cs) H (Lo n Pv acc i te (some (.int (lo+i))::cs))) (hd:∀ys H,Pv n ys H->Q H):Uz (Itr lo n) 1 cs (Q3 0) tt te H1 acc Q:=by
 refine Zw Pv h0 (λys H p=>⟨Nat.le_refl _,hd ys H p⟩) λi ys H hi p=>⟨hi,?_⟩;rintro x U ⟨rfl,rfl⟩ L G;obtain⟨J,rfl⟩: ∃J,L=[J]:=List.length_eq_one_iff.mp G;exact⟨⟨[some _],rfl,rfl⟩,hs i ys _ hi p⟩
theorem OC{as:St}(h:as.length=2):∃a0 a1,as=[a0,a1]:=by
 match as,h with
 | [a0,a1],_=>exact⟨a0,a1,rfl⟩
theorem UG(Pv:Nat->List V->Hp->Prop)(h0:Pv 0 [] (upd H1 acc (.lst [])))(hl:∀i ys H,i<=xs.length->Pv i ys H->SqL K H a xs)
 (hs:∀i x ys H,i<xs.length->xs[i]?=some x->Pv i ys H->∃p u v,x=.ref p/\SqT K H p [u,v]/\tt (some u::some v::cs) H (Lo xs.length Pv acc i te (some u::some v::cs))) (hd:∀ys H,Pv xs.length ys H->Q H):Uz (Itl K a) 2 cs (PJ K 2 (JP (Q3 0) (JP (Q3 1) N7))) tt te H1 acc Q:=by
 refine Zw Pv h0 (λys H p=>⟨⟨xs,hl _ _ _ (7:) p,Nat.le_refl _⟩,hd ys H p⟩) λi ys H hi p=>(87:);rintro x U ⟨rfl,J⟩ Y G;obtain⟨Z,a1,rfl⟩:=OC G;obtain⟨q,u,v,rfl,L,h⟩:=hs i x ys _ hi (J xs (hl _ _ _ (Nat.le_of_lt hi) p)) p;exact⟨q,[u,v],rfl,L,rfl,u,[v],rfl,v,[],rfl,rfl,⟨[some u,some v],rfl,rfl⟩,h⟩
end
end L2
namespace L2
open PySem PySem.Spec PyProof.Rows
section
variable{κ:Type} [DecidableEq κ]
def Zx(kvs:List (κ×V))(k:κ):Option V:=(kvs.find? λkv=>decide (kv.1=k)).map (·.2)
def Ug(kvs:List (κ×V))(k:κ)(v:V):List (κ×V):=
 if(kvs.any λkv=>decide (kv.1=k))=true then kvs.map (λkv=>if kv.1=k then(kv.1,v)else kv)else kvs++[(k,v)]
theorem ZL{p:κ×V}{r:List (κ×V)}{k:κ}(e:p.1=k):Zx (p::r) k=some p.2:=by simp [Zx,List.find?_cons,e]
theorem ZK{p:κ×V}{r:List (κ×V)}{k:κ}(e:¬p.1=k):Zx (p::r) k=Zx r k:=by simp [Zx,List.find?_cons,e]
theorem JB(k:κ):∀kvs:List (κ×V),(kvs.any λkv=>decide (kv.1=k))=(Zx kvs k).isSome
 | []=>rfl
 | p::r=>by
  rw [List.any_cons]
  by_cases e:p.1=k
  .simp only [ZL e,decide_eq_true e,Bool.true_or,Option.isSome_some]
  .rw [ZK e,decide_eq_false e,Bool.false_or];exact JB k r
theorem UA(kvs:List (κ×V))(k:κ)(v:V):(Ug kvs k v).length<=kvs.length+1:=by
 unfold Ug;split
 .rw [List.length_map];lia
 .rw [List.length_append,List.length_cons,List.length_nil];lia
theorem Wl{kvs:List (κ×V)}{k:κ}(v:V)(h:Zx kvs k=none):Ug kvs k v=kvs++[(k,v)]:=by
 unfold Ug;rw [JB,h];exact if_neg (18:)
theorem RelO.isSome_eq{o:Option V}{u:Option Value}(r:RelO o u):o.isSome=u.isSome:=by
 cases o with
 | none=>cases u with
  | none=>rfl
  | some _=>exact(show False from r).elim
 | some _=>cases u with
  | none=>exact(show False from r).elim
  | some _=>rfl
theorem RelO.getD{o:Option V}{u:Option Value}{d:V}{d':Value}(r:RelO o u)(rd:RelV d d'):RelV (o.getD d) (u.getD d'):=by
 cases o with
 | none=>cases u with
  | none=>exact rd
  | some _=>exact(show False from r).elim
 | some _=>cases u with
  | none=>exact(show False from r).elim
  | some _=>exact r
theorem KV.val{kvs:List (κ×V)}{vs:List (κ×Value)}(r:KV kvs vs)(k:κ):RelO (Zx kvs k) (valueAt vs k):=by
 unfold KV at r
 induction r with
 | nil=>exact True.intro
 | @cons p q ps G h t L=>
  obtain⟨h1,h2⟩:=h
  by_cases e:p.1=k
  .have J:q.1=k:=h1.symm.trans e;have b:valueAt (q::G) k=some q.2:=by simp [valueAt,List.find?_cons,J]
   rw [ZL e,b];exact h2
  .have J:¬q.1=k:=λz=>e (h1.trans z);have b:valueAt (q::G) k=valueAt G k:=by simp [valueAt,List.find?_cons,J]
   rw [ZK e,b];exact L
theorem KV.any{kvs:List (κ×V)}{vs:List (κ×Value)}(r:KV kvs vs)(k:κ):(kvs.any λkv=>decide (kv.1=k))=vs.any λkv=>decide (kv.1=k):=by
 unfold KV at r
 induction r with
 | nil=>rfl
 | cons h t G=>rw [List.any_cons,List.any_cons,G,h.1]
theorem KV.repl{kvs:List (κ×V)}{vs:List (κ×Value)}(r:KV kvs vs)(k:κ){y:V}{u:Value}(ry:RelV y u):
 KV (kvs.map λkv=>if kv.1=k then(kv.1,y)else kv) (vs.map λkv=>if kv.1=k then(kv.1,u)else kv):=by
 unfold KV at r ⊢
 induction r with
 | nil=>exact .nil
 | @cons p q ps J h t G=>
  rw [List.map_cons,List.map_cons];refine .cons ?_ G;obtain⟨h1,h2⟩:=h
  by_cases e:p.1=k
  .rw [if_pos e,if_pos (h1.symm.trans e)];exact⟨h1,ry⟩
  .rw [if_neg e,if_neg (λz=>e (h1.trans z))];exact⟨h1,h2⟩
theorem KV.put{kvs:List (κ×V)}{vs:List (κ×Value)}(r:KV kvs vs)(k:κ){y:V}{u:Value}(ry:RelV y u):KV (Ug kvs k y) (stored vs k u):=by
 unfold Ug stored;rw [r.any k]
 by_cases e:(vs.any λG=>decide (G.1=k))=true
 .rw [if_pos e,if_pos e];exact r.repl k ry
 .rw [if_neg e,if_neg e];exact Paired.snoc r ⟨rfl,ry⟩
theorem KV.length{kvs:List (κ×V)}{vs:List (κ×Value)}(r:KV kvs vs):kvs.length=vs.length:=Paired.length r
end
theorem Jf{P:Program}{w:World}{k:Key}{u:Value}(r:RelV (kV k) u):(Qp P w).is k u=true:=by
 cases k with
 | inl i=>obtain⟨t,e⟩:=(show ∃t,u=Value.int i t from r);subst e;exact WN P w i t
 | inr x=>obtain⟨t,e⟩:=(show ∃t,u=Value.str x t from r);subst e;exact WT P w x t
theorem JK{P:Program}{w:World}:∀{ks:List Key}{us:List Value},Vals (ks.map kV) us->ItemsAre (Qp P w) ks us
 | [],_,r=>by rw [List.map_nil]at r;cases r;exact .nil
 | k::ks,_,r=>by
  rw [List.map_cons]at r;cases r with
  | cons h t=>exact .cons (Jf h) (JK t)
abbrev KT(H:Hp):List (88:)->List (List Key×Addr×Value)->Prop:=Paired λp q=>p.1=q.1/\H q.2.1=some (.tup (p.1.map kV))/\RelV p.2 q.2.2
theorem KT.val{H:Hp}{kvs:List (88:)}{xs:List (List Key×Addr×Value)}(r:KT H kvs xs)(k:List Key):RelO (Zx kvs k) ((atKey xs k).map (·.2)):=by
 induction r with
 | nil=>exact True.intro
 | @cons p q ps G h t L=>
  obtain⟨h1,_,h2⟩:=h
  by_cases e:p.1=k
  .have J:q.1=k:=h1.symm.trans e;have b:atKey (q::G) k=some q.2:=by simp [atKey,List.find?_cons,J]
   rw [ZL e,b];exact h2
  .have J:¬q.1=k:=λz=>e (h1.trans z);have b:atKey (q::G) k=atKey G k:=by simp [atKey,List.find?_cons,J]
   rw [ZK e,b];exact L
theorem KT.repl{H:Hp}{kvs:List (88:)}{xs:List (List Key×Addr×Value)}(r:KT H kvs xs)(k:List Key){y:V}{u:Value}(ry:RelV y u):
 KT H (kvs.map λkv=>if kv.1=k then(kv.1,y)else kv) (xs.map (putAt k u)):=by
 induction r with
 | nil=>exact .nil
 | @cons p q ps L h t G=>
  rw [List.map_cons,List.map_cons];refine .cons ?_ G;obtain⟨h1,h2,J⟩:=h;unfold putAt
  by_cases e:p.1=k
  .rw [if_pos e,if_pos (h1.symm.trans e)];exact⟨h1,h2,ry⟩
  .rw [if_neg e,if_neg (λz=>e (h1.trans z))];exact⟨h1,h2,J⟩
theorem KT.put{H:Hp}{kvs:List (88:)}{xs:List (List Key×Addr×Value)}(r:KT H kvs xs)(k:List Key){b:Addr}{y:V}{u:Value}(hb:H b=some (.tup (k.map kV)))(ry:RelV y u):
 KT H (Ug kvs k y) (storedH xs k b u):=by
 have e:(kvs.any λG=>decide (G.1=k))=(atKey xs k).isSome:=by
  rw [JB,(r.val k).isSome_eq,Option.isSome_map]
 unfold Ug storedH;rw [e]
 by_cases q:(atKey xs k).isSome=true
 .rw [if_pos q,if_pos q];exact r.repl k ry
 .rw [if_neg q,if_neg q];exact Paired.snoc r ⟨rfl,hb,ry⟩
theorem KT.keeps{H H':Hp}{kvs:List (88:)}{xs:List (List Key×Addr×Value)}(r:KT H kvs xs)(ht:∀b ys,H b=some (.tup ys)->H' b=some (.tup ys)):KT H' kvs xs:=
 Paired.mapP r λ_ _ z=>⟨z.1,ht _ _ z.2.1,z.2.2⟩
section
variable{P:Program}{w:World}{H:Hp}{h:Heap}{a:Addr}
theorem Pe{u:HO}(ok:HOk P w H h)(e:Rd H a u):ObjOk P w H h a u:=e.ok ok
theorem UQ{kvs:List (Key×V)}(ok:HOk P w H h)(e:Rd H a (.dK kvs)):kvs.length<=sizeLine/\(a==sysModules)=false/\∃vs,KV kvs vs/\h.DictOf (Qp P w) a vs:=
 show ObjOk P w H h a (.dK kvs)from Pe ok e
theorem Sr{kvs:List (Key×V)}(ok:HOk P w H h)(e:H a=some (.dK kvs)):kvs.length<=sizeLine/\(a==sysModules)=false/\∃vs,KV kvs vs/\h.DictOf (Qp P w) a vs:=UQ ok (.inl e)
theorem Y2{ks:List Key}(ok:HOk P w H h)(e:H a=some (.tup (ks.map kV))):(tupleKind (Qp P w)).is h ks a:=by
 obtain⟨_,its,r,o,h1,h2,n,G⟩:=(show ObjOk P w H h a (.tup (ks.map kV))from ok a _ e);exact⟨o,its.toArray,n,h1,h2,G,by simpa using JK r⟩
theorem U9{kvs:List (88:)}(ok:HOk P w H h)(e:Rd H a (.dT kvs)):kvs.length<=sizeLine/\(a==sysModules)=false/\
 ∃xs,KT H kvs xs/\h.DictOfH (tupleKind (Qp P w)) a xs:=by
 obtain⟨z,y,xs,r,o,es,ep,h1,h2,J,L,U⟩:=(show ObjOk P w H h a (.dT kvs)from Pe ok e);refine⟨z,y,xs,r,o,es,ep,h1,h2,J,L,λx hx=>?_,U⟩;have all:∀{l:List (88:)}{m:List (List Key×Addr×Value)},KT H l m->∀x∈m,(tupleKind (Qp P w)).is h x.1 x.2.1:=by
  intro l m q
  induction q with
  | nil=>intro x hx;exact nomatch hx
  | @cons p q ps Z G t Y=>
   intro x hx;rcases List.mem_cons.mp hx with e | hx
   .subst e;exact Y2 ok (by rw [<-G.1];exact G.2.1)
   .exact Y x hx
 exact all r x hx
theorem Nd{kvs:List (88:)}(ok:HOk P w H h)(e:H a=some (.dT kvs)):kvs.length<=sizeLine/\(a==sysModules)=false/\
 ∃xs,KT H kvs xs/\h.DictOfH (tupleKind (Qp P w)) a xs:=U9 ok (.inl e)
end
def DGet(H:Hp)(a:Addr)(y:V)(r:Option V):Prop:=
 (∃kvs k,Rd H a (.dK kvs)/\y=kV k/\r=Zx kvs k)\/∃kvs k b,Rd H a (.dT kvs)/\y=.ref b/\H b=some (.tup (k.map kV))/\r=Zx kvs k
def DPut(H:Hp)(a:Addr)(y v:V)(H':Hp):Prop:=
 (∃kvs k,H a=some (.dK kvs)/\y=kV k/\kvs.length<sizeLine/\H'=upd H a (.dK (Ug kvs k v))) \/
 ∃kvs k b,H a=some (.dT kvs)/\y=.ref b/\H b=some (.tup (k.map kV))/\kvs.length<sizeLine/\H'=upd H a (.dT (Ug kvs k v))
theorem DGet.k{H:Hp}{a:Addr}{kvs:List (Key×V)}{k:Key}(e:H a=some (.dK kvs)):DGet H a (kV k) (Zx kvs k):=.inl ⟨kvs,k,.inl e,rfl,rfl⟩
theorem DGet.t{H:Hp}{a b:Addr}{kvs:List (88:)}{k:List Key}(e:H a=some (.dT kvs))(eb:H b=some (.tup (k.map kV))):DGet H a (.ref b) (Zx kvs k):=.inr ⟨kvs,k,b,.inl e,rfl,eb,rfl⟩
theorem DPut.t{H:Hp}{a b:Addr}{kvs:List (88:)}{k:List Key}{v:V}(e:H a=some (.dT kvs))(eb:H b=some (.tup (k.map kV)))(hl:kvs.length<sizeLine):
 DPut H a (.ref b) v (upd H a (.dT (Ug kvs k v))):=.inr ⟨kvs,k,b,e,rfl,eb,hl,rfl⟩
section
variable{X:Cx}{pins:List (8:)}{σ:St}{H:Hp}{s:Shared}{a:Addr}{y v:V}{u r:Value}{o:Option V}{A:Around}{E:Value->Shared->Prop}
theorem Inv.big(I:Inv X pins σ H s):sysModules<s.heap.objs.size:=by
 have h:mainGlobals<s.heap.objs.size:=(I.mod.glob.keeps I.bk).lt;exact Nat.lt_trans (18:) h
theorem GO{Q:Value->Shared->Prop}(hu:A.units+1<cLine)(I:Inv X pins σ H s)(g:DGet H a y (some v))(ry:RelV y u)(h:∀w' s',Inv X pins σ H s'->RelV v w'->Q w' s'):
 wpAny (3:) A (getItem (.ref a) u) Q E s:=by
 rcases g with⟨kvs,k,e,L,l⟩ | ⟨kvs,k,b,e,L,eb,l⟩
 .subst L;obtain⟨z,hd,vs,G,U⟩:=UQ I.hok e;obtain⟨w',Y,J⟩:=RelO.some_of (v:=v) (o:=valueAt vs k) (by rw [l];exact G.val k);exact wpAny_getItem_of (Jf ry) U.mapOf Y (h w' _ (I.tok _) J)
 .subst L;cases (show u=Value.ref b from ry);obtain⟨z,hd,xs,G,U⟩:=U9 I.hok e;obtain⟨w',Y,J⟩:=RelO.some_of (v:=v) (o:=(atKey xs k).map (·.2)) (by rw [l];exact G.val k);obtain⟨p,hp,Z⟩:=Option.map_eq_some_iff.mp Y;refine wpAny_getItem_heap (tupleKind_room_in1 hu) (Y2 I.hok eb) U hp ?_;rw [Z];exact h w' _ (I.tok _) J
theorem N3{Q:Value->Shared->Prop}(hu:A.units+1<cLine)(I:Inv X pins σ H s)(g:DGet H a y o)(ry:RelV y u)(h:∀s',Inv X pins σ H s'->Q (.bool (!o.isSome)) s'):
 wpAny (3:) A (compareOp .NotIn u (.ref a)) Q E s:=by
 rcases g with⟨kvs,k,e,J,l⟩ | ⟨kvs,k,b,e,J,Y,l⟩
 .subst J;obtain⟨z,L,vs,G,U⟩:=UQ I.hok e;refine wpAny_notIn_of (Jf ry) L U.mapOf ?_;rw [<-(G.val k).isSome_eq,<-l];exact h _ (I.tok _)
 .subst J;cases (show u=Value.ref b from ry);obtain⟨z,L,xs,G,U⟩:=U9 I.hok e;refine wpAny_notIn_heap (tupleKind_room_in1 hu) (Y2 I.hok Y) L U ?_;have q:=(G.val k).isSome_eq;rw [Option.isSome_map]at q;rw [<-q,<-l];exact h _ (I.tok _)
theorem VT{h':Heap}{t':Nat}{ob:HO}(I:Inv X pins σ H s)(mu:Mut (H a))(hs:Heap.SameBut a s.heap h')(he:∃q,h'.get? a=some q)(new:ObjOk X.prog X.w (upd H a ob) h' a ob):
 Inv X pins σ (upd H a ob) { s with heap:=h',toks:=t' }:=
 I.write (x:=a) (e:=a) mu (.inl rfl) (λb q G z=>(hs.2 b G).trans z) he new
theorem M0{P:Program}{w:World}{H':Hp}{h':Heap}{kvs:List (Key×V)}{vs:List (Key×Value)}(z:kvs.length<=sizeLine)(hd:(a==sysModules)=false)(rel:KV kvs vs)(dd:h'.DictOf (Qp P w) a vs):
 ObjOk P w H' h' a (.dK kvs):=⟨z,hd,vs,rel,dd⟩
theorem G5{H':Hp}{Q:Unit->Shared->Prop}(hu:A.units+1<cLine)(I:Inv X pins σ H s)(g:DPut H a y v H')(ry:RelV y u)(rv:RelV v r)(h:∀s',Inv X pins σ H' s'->Q () s'):
 wpAny (3:) A (setItem (.ref a) u r) Q E s:=by
 rcases g with⟨kvs,k,e,U,l,Y⟩ | ⟨kvs,k,b,e,U,eb,l,Y⟩
 .subst U Y;obtain⟨z,Z,vs,G,dd⟩:=Sr I.hok e;have hz:vs.length<=sizeLine:=by rw [<-G.length];exact z
  have hl:(Ug kvs k v).length<=sizeLine:=by have:=UA kvs k v;lia
  refine wpAny_setItem_pairs (hsz:=hz) (Jf ry) dd λh' J hs=>h _ ?_;have he:∃q,h'.get? a=some q:=let⟨q,_,_,L,_⟩:=J;⟨q,L⟩
  exact VT I (by rw [e];exact True.intro) hs he (M0 hl Z (G.put k rv) J)
 .subst U Y;cases (show u=Value.ref b from ry);obtain⟨z,Z,xs,G,dd⟩:=Nd I.hok e;have hz:xs.length<=sizeLine:=by rw [<-Paired.length G];exact z
  have hl:(Ug kvs k v).length<=sizeLine:=by have:=UA kvs k v;lia
  refine wpAny_setItem_heap (hsz:=hz) (tupleKind_room_in1 hu) (Y2 I.hok eb) dd λh' J hs=>h _ ?_;obtain⟨q,es,ep,L,h2,h3,h4,_,h5⟩:=J;refine VT I (by rw [e];exact True.intro) hs ⟨q,L⟩ ⟨hl,Z,_,(G.put k eb rv).keeps λc ys ec=>?_,q,es,ep,L,h2,h3,h4,h5⟩;rw [Qg (ne_of ec e (44:))];exact ec
end
section
variable{X:Cx}{pins:List (8:)}{σ:St}{H:Hp}{s:Shared}{a:Addr}{kvs:List (Key×V)}{k:Key}{u:Value}{A:Around}{E:Value->Shared->Prop}
end
def TC(i:Expr):Prop:=∀ov iv,subscripted i false ov iv=operate [ov,iv] (getItem ov iv)
theorem OF{prog:Program}{w:World}{A:Around}{E:Value->Shared->Prop}{s:Shared}{env:Env}{value slice:Expr}{pos:Pos}{T id:String}{Q:Value->Shared->Prop}
 (hl:typeLookup (.type T) "__getitem__"=pure (some (.builtin id))) (hs:TC slice)
 (h:wpAny (27:) A (eval value env) (λo s₁=>wpAny (27:) A (eval slice env) (λi s₂=>s₂.TypeIs o T/\wpAny (27:) A (getItem o i) Q E s₂) E s₁) E s):
 wpAny (27:) A (eval (.Subscript value slice pos) env) Q E s:=by
 refine Subscript_ (wpAny_mono h (λo s₁ U=>wpAny_mono U (λi s₂ G=>?_) λ_ _ x=>x) λ_ _ x=>x);obtain⟨J,G⟩:=G;unfold subscriptTail;refine wpAny_bind ?_;rw [getitemInPython_of_ne J.not_modules];refine wpAny_bind (wpAny_specialOf J hl ?_);have fin:wpAny (27:) A (subscripted slice false o i) (λr L=>wpAny (27:) A (letTemporaryGo value o r>>=λ_=>pure r) Q E L) E s₂:=by
  rw [hs o i];exact wpAny_operating (wpAny_mono G (λr L Y=>wpAny_bind (wpAny_letTemporaryGo (wpAny_pure Y))) λ_ _ x=>x)
 first
  | exact wpAny_pure (wpAny_bind fin)
  | exact wpAny_bind (wpAny_pure (wpAny_bind fin))
  | exact wpAny_bind fin
theorem We{X:Cx}{pins:List (8:)}{σ:St}{H:Hp}{s:Shared}{a:Addr}{y:V}{o:Option V}(I:Inv X pins σ H s)(g:DGet H a y o):s.TypeIs (.ref a) "dict":=by
 rcases g with⟨kvs,k,e,_,_⟩ | ⟨kvs,k,b,e,_,_,_⟩
 .obtain⟨_,_,vs,_,G⟩:=UQ I.hok e;exact G.typeIs
 .obtain⟨_,_,xs,_,G⟩:=U9 I.hok e;exact G.typeIs
def TQ(td ty:TE):TE:=λσ H Q=>td σ H λx H1=>ty σ H1 λy H2=>∃a v,x=.ref a/\DGet H2 a y (some v)/\Q v H2
def NW(ty td:TE):TE:=λσ H Q=>ty σ H λy H1=>td σ H1 λx H2=>∃a o,x=.ref a/\DGet H2 a y o/\Q (.bl (!o.isSome)) H2
def SO(td ty tv:TE):TS:=λD σ H=>tv σ H λv H1=>td σ H1 λx H2=>ty σ H2 λy H3=>∃a H4,x=.ref a/\DPut H3 a y v H4/\D.nx σ H4
section
variable{X:Cx}{o i e value:Expr}{pos pos' tpos:Pos}{td ty tv:TE}
theorem YM(hu:X.A.units+1<cLine)(ho:PE X o td)(hi:PE X i ty)(hs:TC i):PE X (.Subscript o i pos) (TQ td ty):=by
 intro pins s σ H Q I h;refine OF PySem.F.slot_dict_getitem.lookup hs (thn (ho pins s σ H _ I h) λu L ⟨x,H1,U,Y,Z⟩=>thn (hi pins L σ H1 _ U Z) λiv s2 ⟨y,H2,G,ry,a,v,ex,g,q2⟩=>?_);subst ex;obtain rfl:u=Value.ref a:=Y;exact⟨We G g,GO hu G g ry λw' s3 I3 J=>⟨v,H2,I3,J,q2⟩⟩
theorem J1(hu:X.A.units+1<cLine)(hi:PE X i ty)(ho:PE X o td):PC X .NotIn i o (NW ty td):=by
 intro pins s σ H Q I h;refine thn (hi pins s σ H _ I h) λiv G ⟨y,H1,J,L,U⟩=>thn (ho pins G σ H1 _ J U) λu s2 ⟨x,H2,Y,Z,a,ov,ex,g,q2⟩=>?_;subst ex;obtain rfl:u=Value.ref a:=Z;exact N3 hu Y g L λs3 I3=>⟨.bl (!ov.isSome),H2,I3,rfl,q2⟩
theorem Gu(hu:X.A.units+1<cLine)(ho:PE X o td)(hi:PE X i ty)(hv:PE X value tv)(hs:swapsWith value (some (.Subscript o i pos')) pos.line X.env=pure false):
 PS X (.Assign [.Subscript o i pos'] value pos) (SO td ty tv):=by
 intro pins s σ H D I h;refine wpAny_Assign_Subscript (thn (hv pins s σ H _ I h) λr G ⟨v,H1,J,L,U⟩=>thn (ho pins G σ H1 _ J U) λu Y ⟨x,H2,Z,rx,q2⟩=>thn (hi pins Y σ H2 _ Z q2) λiv s3 ⟨y,H3,I3,ry,a,H4,ex,g,q3⟩=>?_) hs;subst ex;obtain rfl:u=Value.ref a:=rx;exact G5 hu I3 g ry L λs4 I4=>⟨σ,H4,I4,q3⟩
end
theorem NH{P:Program}{w:World}{H:Hp}(h:Heap)(hb:sysModules<h.objs.size):ObjOk P w H (h.push { cls:=.type "dict",data:=.dict #[] }) h.objs.size (.dT []):=
 ⟨Nat.zero_le _,beq_eq_false_iff_ne.mpr (Ne.symm (Nat.ne_of_lt hb)),[],.nil,_,#[],0,Heap.get?_push_size _ rfl,⟨rfl,rfl,rfl⟩,rfl,rfl,List.nodup_nil⟩
def Sb:TE:=λ_ H Q=>∀p,H p=none->Q (.ref p) (upd H p (.dT []))
section
variable{X:Cx}{pos:Pos}
theorem Wj:PE X (.Dict [] [] pos) Sb:=λpins s σ H Q I h=>
 wpAny_Dict_empty ⟨.ref s.heap.objs.size,_,I.laid (a:=s.heap.objs.size) (o:=.dT []) (t':=s.toks) (λ_ _ q=>Heap.get?_push_of_some _ q) (7:) (NH s.heap I.big),rfl,h _ (I.hok.fresh (7:))⟩
end
structure M1(X:Cx)(o:Expr)(m:Str)(apos:Pos)(e:Expr)(cpos:Pos):Prop where
 base:attributeBase o m X.env (eval o X.env)=eval o X.env
 few:((backTo cpos (starEach [e] X.env)).all (λx=>!x.1)&&(backToKw cpos (keywordEach [] X.env)).all (λx=>x.1.isSome)
  &&decide (([e]:List Expr).length+([]:List Keyword).length+(61:)<30))=true
 line:(apos.endLine==cpos.line)=true
 trees:backTo cpos (starEach [e] X.env)=[(46:)]
structure M2(X:Cx)(o:Expr)(m:Str)(apos:Pos)(e f:Expr)(cpos:Pos):Prop where
 base:attributeBase o m X.env (eval o X.env)=eval o X.env
 few:((backTo cpos (starEach [e,f] X.env)).all (λx=>!x.1)&&(backToKw cpos (keywordEach [] X.env)).all (λx=>x.1.isSome)
  &&decide (([e,f]:List Expr).length+([]:List Keyword).length+(61:)<30))=true
 line:(apos.endLine==cpos.line)=true
 trees:backTo cpos (starEach [e,f] X.env)=[(46:),(false,eval f X.env)]
def IsD(H:Hp)(a:Addr):Prop:=(∃kvs,Rd H a (.dK kvs))\/∃kvs,Rd H a (.dT kvs)
theorem LU{X:Cx}{pins:List (8:)}{σ:St}{H:Hp}{s:Shared}{a:Addr}(I:Inv X pins σ H s)(d:IsD H a):
 s.TypeIs (.ref a) "dict"/\ (∀b,Value.ref a=.ref b->∃ob,s.heap.get? b=some ob/\ob.dict=none)/\(a==sysModules)=false:=by
 rcases d with⟨kvs,e⟩ | ⟨kvs,e⟩
 .obtain⟨_,J,vs,_,G⟩:=UQ I.hok e;refine⟨G.typeIs,λb q=>?_,J⟩;cases q;obtain⟨ob,_,_,h1,h2,_⟩:=G;exact⟨ob,h1,h2.2.1⟩
 .obtain⟨_,J,xs,_,G⟩:=U9 I.hok e;refine⟨G.typeIs,λb q=>?_,J⟩;cases q;obtain⟨ob,_,_,h1,h2,_⟩:=G;exact⟨ob,h1,h2.2.1⟩
section
variable{X:Cx}{pins:List (8:)}{σ:St}{H:Hp}{s:Shared}{a:Addr}{y d:V}{u r:Value}{o:Option V}{A:Around}{E:Value->Shared->Prop}
theorem PV{Q:Value->Shared->Prop}(hu:A.units+1<cLine)(I:Inv X pins σ H s)(g:DGet H a y o)(ry:RelV y u)(h:∀w' s',Inv X pins σ H s'->RelV (o.getD .non) w'->Q w' s'):
 wpAny (3:) A (call (.builtin "dict.get") [.ref a,u]) Q E s:=by
 rcases g with⟨kvs,k,e,L,l⟩ | ⟨kvs,k,b,e,L,Y,l⟩
 .subst L;obtain⟨z,U,vs,G,J⟩:=UQ I.hok e;refine call_meetsIn PySem.F.slot_dict_get J.typeIs PySem.F.entry_dict_get (PySem.F.args_dict_get_2 _ _) (meets_dict_get (Qp X.prog X.w) a (Jf ry) U) ⟨_,J.mapOf,h _ _ (I.tok _) ?_⟩;rw [l];exact(G.val k).getD rfl
 .subst L;cases (show u=Value.ref b from ry);obtain⟨z,U,xs,G,J⟩:=U9 I.hok e;refine call_meetsIn PySem.F.slot_dict_get J.typeIs PySem.F.entry_dict_get (PySem.F.args_dict_get_2 _ _) (meetsH_dict_get (tupleKind (Qp X.prog X.w)) a b U) ⟨tupleKind_room_in1 hu,k,xs,Y2 I.hok Y,J,h _ _ (I.tok _) ?_⟩;rw [l];exact(G.val k).getD rfl
theorem P3{Q:Value->Shared->Prop}(hu:A.units+1<cLine)(I:Inv X pins σ H s)(g:DGet H a y o)(ry:RelV y u)(rd:RelV d r)(h:∀w' s',Inv X pins σ H s'->RelV (o.getD d) w'->Q w' s'):
 wpAny (3:) A (call (.builtin "dict.get") [.ref a,u,r]) Q E s:=by
 rcases g with⟨kvs,k,e,L,l⟩ | ⟨kvs,k,b,e,L,Y,l⟩
 .subst L;obtain⟨z,U,vs,G,J⟩:=UQ I.hok e;refine call_meetsIn PySem.F.slot_dict_get J.typeIs PySem.F.entry_dict_get (PySem.F.args_dict_get_3 _ _ _) (meets_dict_get_default (Qp X.prog X.w) a (Jf ry) U r) ⟨_,J.mapOf,h _ _ (I.tok _) ?_⟩;rw [l];exact(G.val k).getD rd
 .subst L;cases (show u=Value.ref b from ry);obtain⟨z,U,xs,G,J⟩:=U9 I.hok e;refine call_meetsIn PySem.F.slot_dict_get J.typeIs PySem.F.entry_dict_get (PySem.F.args_dict_get_3 _ _ _) (meetsH_dict_get_default (tupleKind (Qp X.prog X.w)) a b U r) ⟨tupleKind_room_in1 hu,k,xs,Y2 I.hok Y,J,h _ _ (I.tok _) ?_⟩;rw [l];exact(G.val k).getD rd
end
def Sg(td ty:TE):TE:=λσ H Q=>td σ H λx H1=>∃a,x=.ref a/\IsD H1 a/\ty σ H1 λy H2=>∃o,DGet H2 a y o/\Q (o.getD .non) H2
def R5(td ty tx:TE):TE:=λσ H Q=>td σ H λx H1=>∃a,x=.ref a/\IsD H1 a/\ty σ H1 λy H2=>tx σ H2 λz H3=>∃o,DGet H3 a y o/\Q (o.getD z) H3
section
variable{X:Cx}{o e f:Expr}{apos cpos:Pos}{td ty tx:TE}
theorem MS(hu:X.A.units+1<cLine)(ho:PE X o td)(he:PE X e ty)(m:M1 X o "get" apos e cpos):PE X (.Call (.Attribute o "get" apos) [e] [] cpos) (Sg td ty):=by
 intro pins s σ H Q I h;refine wpAny_Call_method m.base m.few m.line PySem.F.plainAttrs_dict PySem.F.slot_dict_get PySem.F.type_dict_get (thn (ho pins s σ H _ I h) λu L ⟨x,H1,G,U,a,ex,d,Y⟩=>?_);subst ex;obtain rfl:u=Value.ref a:=U;obtain⟨t1,t2,_⟩:=LU G d;refine⟨t1,t2,?_⟩;rw [m.trees];refine Calls.callWith_builtin rfl (Calls.evalArgs_plain (Calls.spliced_cons (thn (he pins L σ H1 _ G Y) λiv s2 ⟨y,H2,Z,ry,ov,g,q2⟩=>Calls.spliced_nil ?_)));exact PV hu Z g ry λw' s3 I3 J=>⟨_,H2,I3,J,q2⟩
theorem MH(hu:X.A.units+1<cLine)(ho:PE X o td)(he:PE X e ty)(hf:PE X f tx)(m:M2 X o "get" apos e f cpos):PE X (.Call (.Attribute o "get" apos) [e,f] [] cpos) (R5 td ty tx):=by
 intro pins s σ H Q I h;refine wpAny_Call_method m.base m.few m.line PySem.F.plainAttrs_dict PySem.F.slot_dict_get PySem.F.type_dict_get (thn (ho pins s σ H _ I h) λu L ⟨x,H1,G,U,a,ex,d,Y⟩=>?_);subst ex;obtain rfl:u=Value.ref a:=U;obtain⟨t1,t2,_⟩:=LU G d;refine⟨t1,t2,?_⟩;rw [m.trees];refine Calls.callWith_builtin rfl (Calls.evalArgs_plain (Calls.spliced_cons (thn (he pins L σ H1 _ G Y) λiv Z ⟨y,H2,I2,ry,q2⟩=>
  Calls.spliced_cons (thn (hf pins Z σ H2 _ I2 q2) λfv s3 ⟨z,H3,I3,rz,ov,g,q3⟩=>Calls.spliced_nil ?_))))
 exact P3 hu I3 g ry rz λw' s4 I4 J=>⟨_,H3,I4,J,q3⟩
end
section
variable{X:Cx}{pins:List (8:)}{σ:St}{H:Hp}{s:Shared}{a:Addr}{kvs:List (Key×V)}{A:Around}{E:Value->Shared->Prop}
end
section
variable{X:Cx}{pins:List (8:)}{σ:St}{H:Hp}{s:Shared}{a:Addr}{y:V}{u:Value}{A:Around}{E:Value->Shared->Prop}
end
end L2
namespace Srt
open PySem PySem.W PyProof.Rows
variable{α β:Type}{O:KeyOrd}{key:Nat->O.α}{n:Nat}
def Ok(O:KeyOrd)(key:Nat->O.α)(n:Nat)(Q:α->Prop):KasT α->Prop
 | .ret a=>Q a
 | .ask i j k=>i<n/\j<n/\Ok O key n Q (k (O.blt (key i) (key j)))
theorem Ok.bind{t:KasT α}{f:α->KasT β}{Q:β->Prop}:Ok O key n (λa=>Ok O key n Q (f a)) t->Ok O key n Q (t.bind f):=by
 induction t with
 | ret a=>exact id
 | ask i j k G=>exact λh=>⟨h.1,h.2.1,G _ h.2.2⟩
theorem Ok.wp{cmp:Nat->Nat->(Bool->Shared->Prop)->Shared->Prop}{s:Shared}(hc:∀i j C,i<n->j<n->C (O.blt (key i) (key j)) s->cmp i j C s){G:α->Shared->Prop}{Q:α->Prop}(hq:∀a,Q a->G a s){t:KasT α}:Ok O key n Q t->t.kasWp cmp G s:=by
 induction t with
 | ret a=>exact hq a
 | ask i j k J=>exact λh=>hc i j _ h.1 h.2.1 (J _ h.2.2)
def Pm(n:Nat)(p:Array Nat):Prop:=p.toList.Perm (List.range n)
theorem Pm.size{p:Array Nat}(h:Pm n p):p.size=n:=by
 have:=h.length_eq
 simpa using this
theorem Pm.lt{p:Array Nat}(h:Pm n p){i:Nat}(hi:i<n):p.getD i 0<n:=by
 have G:i<p.size:=by rw [h.size];exact hi
 have e:p.getD i 0=p[i]:=by simp [Array.getD,G]
 rw [e];have:p[i]∈p.toList:=by simp
 exact List.mem_range.mp (h.mem_iff.mp this)
theorem Pm.of{p q:Array Nat}(h:Pm n p)(e:q.Perm p):Pm n q:=(Array.perm_iff_toList_perm.mp e).trans h
variable(key) in
def kk(p:Array Nat)(i:Nat):O.α:=key (p.getD i 0)
theorem ZY{p q:Array Nat}{i j:Nat}(h:p[i]?=q[j]?):kk key p i=kk key q j:=by
 unfold kk;rw [Array.getD_eq_getD_getElem?,Array.getD_eq_getD_getElem?,h]
variable(key) in
def Up(p:Array Nat)(k:Nat):Prop:=∀i j,i<=j->j<k->O.kle (kk key p i) (kk key p j)
variable(key) in
def GP(p:Array Nat)(k:Nat):Prop:=∀i j,i<=j->j<k->O.kle (kk key p j) (kk key p i)
theorem Vi{p:Array Nat}{i j:Nat}(hj:j<=p.size)(k:Nat):kk key (kas_rev p i j) k=if i<=k/\k<j then kk key p (i+j-1-k)else kk key p k:=by
 have e:=getElem?_mirror_all (xs:=p) (i:=i) hj k;unfold kas_rev
 by_cases h:i<=k/\k<j
 .rw [if_pos h]at e ⊢;exact ZY e
 .rw [if_neg h]at e ⊢;exact ZY e
theorem Jh{p:Array Nat}{i j:Nat}(hj:j<=p.size)(heq:∀k,i<=k->k<j->kk key p k=kk key p (j-1))(k:Nat):kk key (kas_rev p i j) k=kk key p k:=by
 rw [Vi hj]
 by_cases h:i<=k/\k<j
 .rw [if_pos h,heq _ (6:) (6:),heq k h.1 h.2]
 .rw [if_neg h]
theorem Pm.rev{p:Array Nat}(h:Pm n p)(i j:Nat):Pm n (kas_rev p i j):=h.of (mirror_perm _ _ _ _)
theorem OO{p:Array Nat}{m:Nat}(h1:1<=m)(hs:Up key p m)(h:O.kle (kk key p (m-1)) (kk key p m)):Up key p (m+1):=λi j G L=>by
 by_cases J:j<m
 .exact hs i j G J
 .have:j=m:=by lia
  subst this
  by_cases hi:i=j
  .subst hi;exact KeyOrd.kle_refl _
  .exact KeyOrd.kle_trans (hs i (j-1) (6:) (6:)) h
theorem Yk{p:Array Nat}{m:Nat}(h1:1<=m)(hs:GP key p m)(h:O.kle (kk key p m) (kk key p (m-1))):GP key p (m+1):=λi j G L=>by
 by_cases J:j<m
 .exact hs i j G J
 .have:j=m:=by lia
  subst this
  by_cases hi:i=j
  .subst hi;exact KeyOrd.kle_refl _
  .exact KeyOrd.kle_trans h (hs i (j-1) (6:) (6:))
theorem W6{p:Array Nat}(hP:Pm n p){Q:Nat->Prop}:∀(f m:Nat),1<=m->m+f<=n->Up key p m->(∀m',m<=m'->m'<=m+f->Up key p m'->(m'=m+f\/O.klt (kk key p m') (kk key p (m'-1)))->Q m')->Ok O key n Q (kas_asc p f m)
 | 0,m,_,_,G,h=>h m (7:) (7:) G (.inl rfl)
 | f+1,m,h1,L,G,h=>by
  refine⟨hP.lt (6:),hP.lt (6:),?_⟩;show Ok O key n Q (if O.blt (kk key p m) (kk key p (m-1))=true then .ret m else kas_asc p f (m+1));cases J:O.blt (kk key p m) (kk key p (m-1))with
  | true=>
   rw [if_pos rfl];exact h m (7:) (6:) G (.inr J)
  | false=>
   rw [if_neg Bool.false_ne_true];exact W6 hP f (m+1) (6:) (6:) (OO h1 G J) λm' a b c d=>h m' (6:) (6:) c (by rcases d with d | d;exact .inl (6:);exact .inr d)
variable(key) in
def Rf(p:Array Nat)(m q:Nat):Prop:=q+1<=m/\∀i,m-(q+1)<=i->i<m->kk key p i=kk key p (m-1)
theorem UJ{Q:Array Nat×Nat×Nat->Prop}:∀(f:Nat)(p:Array Nat)(m q:Nat),Pm n p->1<=m->m+f<=n->GP key p m->Rf key p m q->
 (∀p' m' q',Pm n p'->m<=m'->m'<=m+f->GP key p' m'->Rf key p' m' q'->Q (p',m',q'))->Ok O key n Q (kas_desc f p m q)
 | 0,p,m,q,G,_,_,L,J,h=>h p m q G (7:) (7:) L J
 | f+1,p,m,q,G,h1,hn,L,J,h=>by
  have aa:=G.size;refine⟨G.lt (6:),G.lt (6:),?_⟩;show Ok O key n Q (if O.blt (kk key p m) (kk key p (m-1))=true then(if q>0 then kas_desc f (kas_rev p (m-(q+1)) m) (m+1) 0 else kas_desc f p (m+1) 0)
   else .ask (p.getD (m-1) 0) (p.getD m 0) λd=>if d=true then .ret (p,m,q)else kas_desc f p (m+1) (q+1))
  have one:∀p':Array Nat,Rf key p' (m+1) 0:=λp'=>⟨by lia,λi a b=>by congr 1;lia⟩;cases U:O.blt (kk key p m) (kk key p (m-1))with
  | true=>
   rw [if_pos rfl];have Y:=Yk h1 L (KeyOrd.kle_of_klt U)
   by_cases Z:q>0
   .rw [if_pos Z];have e:=Jh (key:=key) (p:=p) (i:=m-(q+1)) (j:=m) (6:) J.2;refine UJ f _ (m+1) 0 (G.rev _ _) (6:) (6:) (λi j a b=>by rw [e,e];exact Y i j a b) (one _) λp' m' q' a b c d g=>h p' m' q' a (6:) (6:) d g
   .rw [if_neg Z];exact UJ f p (m+1) 0 G (6:) (6:) Y (one _) λp' m' q' a b c d g=>h p' m' q' a (6:) (6:) d g
  | false=>
   rw [if_neg Bool.false_ne_true];refine⟨G.lt (6:),G.lt (6:),?_⟩;show Ok O key n Q (if O.blt (kk key p (m-1)) (kk key p m)=true then .ret (p,m,q)else kas_desc f p (m+1) (q+1));cases hc:O.blt (kk key p (m-1)) (kk key p m)with
   | true=>
    rw [if_pos rfl];exact h p m q G (7:) (6:) L J
   | false=>
    rw [if_neg Bool.false_ne_true];have he:kk key p m=kk key p (m-1):=KeyOrd.kle_antisymm hc U;refine UJ f p (m+1) (q+1) G (6:) (6:) (Yk h1 L hc) ⟨by have:=J.1;lia,λi a b=>?_⟩ λp' m' q' a b c d g=>h p' m' q' a (6:) (6:) d g;rw [Nat.add_sub_cancel]
    by_cases hi:i=m
    .rw [hi]
    .rw [he];exact J.2 i (6:) (6:)
theorem VY{p:Array Nat}{m:Nat}(hP:Pm n p)(h1:1<=m)(hm:m<=n)(hs:GP key p m){Q:Nat×Array Nat->Prop}(h:∀m' p',Pm n p'->1<=m'->m'<=n->Up key p' m'->Q (m',p')):Ok O key n Q (kas_tail3 m n p):=by
 have G:=hP.size;refine Ok.bind (W6 (hP.rev 0 m) (n-m) m h1 (6:) (λi j J L=>?_) λm' a b c _=>h m' _ (hP.rev 0 m) (6:) (6:) c);rw [Vi (6:),Vi (6:),if_pos (6:),if_pos (6:)];exact hs _ _ (6:) (6:)
theorem Um{p:Array Nat}{m:Nat}(hP:Pm n p)(h1:1<=m)(hm:m+1<=n)(hs:GP key p (m+1)){Q:Nat×Array Nat->Prop}(h:∀m' p',Pm n p'->1<=m'->m'<=n->Up key p' m'->Q (m',p')):Ok O key n Q (kas_descPart m n p):=by
 refine Ok.bind (UJ (n-(m+1)) p (m+1) 0 hP (6:) (6:) hs ⟨by lia,λi a b=>by congr 1;lia⟩ λp' m' G a b c d g=>?_);have L:=a.size;show Ok O key n Q (if G>0 then kas_tail3 m' n (kas_rev p' (m'-(G+1)) m')else kas_tail3 m' n p')
 by_cases J:G>0
 .rw [if_pos J];have e:=Jh (key:=key) (p:=p') (i:=m'-(G+1)) (j:=m') (6:) g.2;exact VY (a.rev _ _) (6:) (6:) (λi j x y=>by rw [e,e];exact d i j x y) h
 .rw [if_neg J];exact VY a (6:) (6:) d h
theorem Nr{p:Array Nat}(hP:Pm n p)(h1:1<=n){Q:Nat×Array Nat->Prop}(h:∀m' p',Pm n p'->1<=m'->m'<=n->Up key p' m'->Q (m',p')):Ok O key n Q (kas_count n p):=by
 have aa:=hP.size;refine Ok.bind (W6 hP (n-1) 1 (7:) (6:) (λi j a b=>?_) λm a b c d=>?_)
 .have:i=j:=by lia
  subst this;exact KeyOrd.kle_refl _
 .show Ok O key n Q (if(m==n)=true then .ret (m,p)else if m>1 then .ask (p.getD 0 0) (p.getD (m-1) 0) λc=>if c=true then .ret (m,p)else kas_descPart m n (kas_rev p 0 m)else kas_descPart m n p)
  by_cases L:m=n
  .rw [if_pos (by simpa using L)];exact h m p hP a (6:) c
  .rw [if_neg (by simpa using L)];have J:O.klt (kk key p m) (kk key p (m-1)):=by
    rcases d with d | d
    .exact absurd (6:) L
    .exact d
   by_cases U:m>1
   .rw [if_pos U];refine⟨hP.lt (6:),hP.lt (6:),?_⟩;show Ok O key n Q (if O.blt (kk key p 0) (kk key p (m-1))=true then .ret (m,p)else kas_descPart m n (kas_rev p 0 m));cases Y:O.blt (kk key p 0) (kk key p (m-1))with
    | true=>
     rw [if_pos rfl];exact h m p hP a (6:) c
    | false=>
     rw [if_neg Bool.false_ne_true];have G:∀k,0<=k->k<m->kk key p k=kk key p (m-1):=λk _ Z=>
      KeyOrd.kle_antisymm (c k (m-1) (6:) (6:)) (KeyOrd.kle_trans Y (c 0 k (6:) Z))
     have e:=Jh (key:=key) (p:=p) (i:=0) (j:=m) (6:) G;refine Um (hP.rev _ _) (6:) (6:) (Yk (6:) (λi j x y=>?_) ?_) h
     .rw [e,e,G i (6:) (6:),G j (6:) y];exact KeyOrd.kle_refl _
     .rw [e,e];exact KeyOrd.kle_of_klt J
   .rw [if_neg U];have:m=1:=by lia
    subst this;refine Um hP (7:) (6:) (Yk (7:) (λi j x y=>?_) (KeyOrd.kle_of_klt J)) h;have:i=j:=by lia
    subst this;exact KeyOrd.kle_refl _
theorem UT{p:Array Nat}{k:Nat}(hP:Pm n p)(hk:k<n)(hs:Up key p k){Q:Nat->Prop}
 (h:∀l,l<=k->(∀i,i<l->O.kle (kk key p i) (kk key p k))->(∀i,l<=i->i<k->O.klt (kk key p k) (kk key p i))->Q l):∀(f l r:Nat),l<=r->r<=k->r-l<=f->
  (∀i,i<l->O.kle (kk key p i) (kk key p k))->(∀i,r<=i->i<k->O.klt (kk key p k) (kk key p i))->Ok O key n Q (kas_place p k f l r)
 | 0,l,r,a,b,c,d,e=>by
  have:l=r:=by lia
  subst this;exact h l b d e
 | f+1,l,r,a,b,c,d,e=>by
  show Ok O key n Q (if l>=r then .ret l else .ask (p.getD k 0) (p.getD ((l+r)/2) 0) λc=>if c=true then kas_place p k f l ((l+r)/2)else kas_place p k f ((l+r)/2+1) r)
  by_cases G:l>=r
  .rw [if_pos G];have:l=r:=by lia
   subst this;exact h l b d e
  .rw [if_neg G];refine⟨hP.lt hk,hP.lt (6:),?_⟩;show Ok O key n Q (if O.blt (kk key p k) (kk key p ((l+r)/2))=true then kas_place p k f l ((l+r)/2)else kas_place p k f ((l+r)/2+1) r);cases J:O.blt (kk key p k) (kk key p ((l+r)/2))with
   | true=>
    rw [if_pos rfl];exact UT hP hk hs h f l ((l+r)/2) (6:) (6:) (6:) d λi x y=>KeyOrd.klt_of_klt_of_kle J (hs _ _ x y)
   | false=>
    rw [if_neg Bool.false_ne_true];exact UT hP hk hs h f ((l+r)/2+1) r (6:) b (6:) (λi x=>KeyOrd.kle_trans (hs i ((l+r)/2) (6:) (6:)) J) e
theorem JM{p:Array Nat}{k d:Nat}(hs:k<p.size)(hd:d<=k)(i:Nat):kk key (bubble p k d) i=if i=k-d then kk key p k else if k-d<i/\i<=k then kk key p (i-1)else kk key p i:=by
 have e:=getElem?_bubble hs d hd i
 by_cases h1:i=k-d
 .rw [if_pos h1]at e ⊢;exact ZY e
 .rw [if_neg h1]at e ⊢
  by_cases h2:k-d<i/\i<=k
  .rw [if_pos h2]at e ⊢;exact ZY e
  .rw [if_neg h2]at e ⊢;exact ZY e
theorem L8{Q:Array Nat->Prop}:∀(f:Nat)(p:Array Nat)(k:Nat),Pm n p->1<=k->k+f=n->Up key p k->(∀p',Pm n p'->Up key p' n->Q p')->Ok O key n Q (kas_bin f p k)
 | 0,p,k,G,_,L,J,h=>h p G (by rw [<-L];exact J)
 | f+1,p,k,G,h1,L,J,h=>by
  have Y:=G.size;have U:k<n:=by lia
  refine Ok.bind (UT G U J (λl a b c=>?_) k 0 k (Nat.zero_le _) (7:) (6:) (λi x=>by lia) λi x y=>by lia);refine L8 f _ (k+1) (G.of (bubble_perm _ _ _)) (6:) (6:) (λi j Z hj=>?_) h;rw [JM (6:) (6:),JM (6:) (6:),show k-(k-l)=l by lia]
  repeat' split
  all_goals first
   | (exfalso;lia)
   | exact KeyOrd.kle_refl _
   | exact b _ (6:)
   | exact KeyOrd.kle_of_klt (c _ (6:) (6:))
   | exact J _ _ (6:) (6:)
theorem sort_ok(h1:1<=n){Q:Array Nat->Prop}(h:∀p,Pm n p->Up key p n->Q p):Ok O key n Q (kas_sort n):=by
 have J:Pm n (List.toArray (List.range n)):=List.Perm.refl _;refine Ok.bind (Nr J h1 λm p a b c d=>?_);show Ok O key n Q (if m<n then kas_bin (n-max m 1) p (max m 1)else .ret p);have L:max m 1=m:=by lia
 by_cases G:m<n
 .rw [if_pos G,L];exact L8 (n-m) p m a b (6:) d h
 .rw [if_neg G];have:m=n:=by lia
  subst this;exact h p a d
end Srt
namespace L2
open PySem PySem.Spec PyProof.Rows PySem.W
section
variable{prog:Program}{w:World}{A:Around}{E:Value->Shared->Prop}{s:Shared}
end
section
variable{X:Cx}
end
end L2
namespace L2
open PySem PySem.Spec PyProof.Rows PySem.W
section
variable{prog:Program}{w:World}{A:Around}{E:Value->Shared->Prop}{s:Shared}
theorem LC{a:Addr}{vs:List Value}{n:Nat}{P:PySem.Fin->Shared->Prop}(O:KeyOrd)(key:Nat->O.α)(κ:SortKind)(ho:s.heap.get? a=some (seqObj "list" vs.toArray n))(h64:vs.length<64)
 (hk:∀(s':Shared)(Q:SortKind->Shared->Prop),(∀b o,b≠a->s.heap.get? b=some o->s'.heap.get? b=some o)->2<=vs.length->Q κ s'->wpAny (27:) A (keyKind' vs.toArray) Q E s')
 (hc:∀(s':Shared)(i j:Nat)(C:Bool->Shared->Prop),(∀b o,b≠a->s.heap.get? b=some o->s'.heap.get? b=some o)->i<vs.length->j<vs.length->C (O.blt (key i) (key j)) s'->wpAny (27:) A (keyLt' κ (vs.getD i Value.none) (vs.getD j Value.none)) C (λ_ _=>False) s')
 (h:∀p:Array Nat,Srt.Pm vs.length p->Srt.Up (O:=O) key p vs.length->P (.done (.ret .none)) { s with heap:=sortedHeap s.heap a vs (p.toList.map λi=>vs.getD i Value.none).toArray }):
 wpAny (27:) A (Builtin.«list.sort» ⟨[.ref a],[]⟩) P E s:=by
 have ab:a<s.heap.objs.size:=Heap.lt_size ho;rw [list_sort_plain];refine wpAny_bind (listItems_at ho rfl ?_);refine wpAny_bind (listUpdate_at ho rfl ?_ (by rw [List.size_toArray,sizeLine_eq];lia) (Nat.zero_le _));obtain⟨e1,U⟩: ∃e1,(s.heap.update a (Obj.mapSeq λ_=>(#[]:Array Value))).get? a=some (seqObj "list" #[] e1):=⟨_,get?_update_seq ho λ_=>#[]⟩;refine wpAny_bind (seqEpoch_at U rfl (wpAny_bind (wpAny_newTuple ?_ (by show vs.length<=_;rw [sizeLine_eq];lia))));refine wpAny_bind (wpAny_newList (wpAny_holding ?_) (Nat.zero_le _));have keep:∀b o,b≠a->s.heap.get? b=some o->((14:).push (68:)).get? b=some o:=λb o hb e=>
  Heap.get?_push_of_some _ (Heap.get?_push_of_some _ ((Heap.get?_update_ne _ _ _ _ hb).trans e))
 have J:((14:).push (68:)).get? a=some (seqObj "list" #[] e1):=Heap.get?_push_of_some _ (Heap.get?_push_of_some _ U);show wpAny (27:) A _ P E { s with heap:=(14:).push (68:) };dsimp only;have hz:vs.toArray.size=vs.length:=List.size_toArray
 by_cases h2:vs.toArray.size<2
 .rw [if_pos h2,if_pos h2];refine wpAny_bind (66:);rw [StateT.run_pure];refine wpAny_bind (66:);dsimp only;refine wpAny_bind (seqEpoch_at J rfl ?_);have e2:(arrOf (SortSt.mk' general' (vs.toArray.zip vs.toArray) #[] 7 none)).map (·.2)=vs.toArray:=by
   show(vs.toArray.zip vs.toArray).map (·.2)=vs.toArray;apply Array.toList_inj.mp;rw [Array.toList_map,Array.toList_zip];exact List.map_snd_zip (7:)
  rw [e2];refine wpAny_bind (listUpdate_at J rfl ?_ (hsz2:=by show vs.toArray.size<=_;rw [sizeLine_eq];lia));simp only [bne_self_eq_false,Bool.false_eq_true,if_false];have:=h (List.range vs.length).toArray (List.Perm.refl _) (λi j ac Y=>by
   have:i=j:=by lia
   subst this;exact O.irrefl _)
  have e3:((List.range vs.length).toArray.toList.map λi=>vs.getD i Value.none)=vs:=by
   apply List.ext_getElem (21:);intro i a b;simp at a;simp [a]
  rw [e3]at this;exact wpAny_pure this
 .rw [if_neg h2,if_neg h2];refine wpAny_bind ?_;refine hk { s with heap:=(14:).push (68:) } _ keep (6:) ?_;refine wpAny_bind (wpAny_mono (kat_run (Q:=λL s'=>∃p:Array Nat,Srt.Pm vs.length p/\Srt.Up (O:=O) key p vs.length/\(arrOf L).map (·.2)=(p.toList.map λi=>vs.getD i Value.none).toArray/\failedOf L=none/\
   s'={ s with heap:=(14:).push (68:) })
   (G:=λp s'=>Srt.Pm vs.length p/\Srt.Up (O:=O) key p vs.length/\s'={ s with heap:=(14:).push (68:) })
   (vs:=vs) (ks:=vs) rfl (6:) (6:) (λp L s' ad Z aa hg=>?_) ?_) (λr s' hq=>?_) λ_ _ e=>e)
  .obtain⟨hP,hU,es⟩:=hg;exact⟨p,hP,hU,kat_snds rfl Z,aa,es⟩
  .refine Srt.Ok.wp (O:=O) (key:=key) (n:=vs.length) (λi j C hi Y hC=>?_) (Q:=λp=>Srt.Pm vs.length p/\Srt.Up (O:=O) key p vs.length) (λp hp=>⟨hp.1,hp.2,rfl⟩) (Srt.sort_ok (6:) λp a b=>⟨a,b⟩);exact hc { s with heap:=(14:).push (68:) } i j C keep hi Y hC
  .obtain⟨p,o1,o2,o3,o4,rfl⟩:=hq;obtain⟨⟨⟩,L⟩:=r;dsimp only at o3 o4 ⊢;refine wpAny_bind (seqEpoch_at J rfl ?_);rw [o3];refine wpAny_bind (listUpdate_at J rfl ?_ (hsz2:=by show(p.toList.map λi=>vs.getD i Value.none).toArray.size<=_;rw [List.size_toArray,List.length_map,o1.length_eq,List.length_range,sizeLine_eq];lia));rw [o4];simp only [bne_self_eq_false,Bool.false_eq_true,if_false];exact wpAny_pure (h p o1 o2)
theorem VH{l:Addr}{vs:List Value}{Q:Value->Shared->Prop}(O:KeyOrd)(key:Nat->O.α)(κ:SortKind)(hl:s.heap.IsList l vs.toArray)(h64:vs.length<64)
 (hk:∀(s':Shared)(E':Value->Shared->Prop)(Q:SortKind->Shared->Prop),(∀b o,s.heap.get? b=some o->s'.heap.get? b=some o)->2<=vs.length->Q κ s'->wpAny (27:) A.in1.in1 (keyKind' vs.toArray) Q E' s')
 (hc:∀(s':Shared)(i j:Nat)(C:Bool->Shared->Prop),(∀b o,s.heap.get? b=some o->s'.heap.get? b=some o)->i<vs.length->j<vs.length->C (O.blt (key i) (key j)) s'->wpAny (27:) A.in1.in1 (keyLt' κ (vs.getD i Value.none) (vs.getD j Value.none)) C (λ_ _=>False) s')
 (h:∀p:Array Nat,Srt.Pm vs.length p->Srt.Up (O:=O) key p vs.length->Q (.ref (23:)) { s with heap:=sortedAll s.heap vs (p.toList.map λi=>vs.getD i Value.none).toArray }):
 wpAny (27:) A (call (.builtin "sorted") [.ref l]) Q E s:=by
 refine Calls.call_function_entry kind_sorted plain_sorted entry_sorted (args_sorted1 _) ?_;unfold Builtin.«sorted»;refine wpAny_bind (m:=checkCount "sorted" 1 1 _) (66:);refine wpAny_bind (collect_list hl ?_ (by rw [sizeLine_eq];lia));refine wpAny_bind (wpAny_newList ?_ (by rw [sizeLine_eq];lia));have J:((s.heap.push (68:)).update s.heap.objs.size (Obj.mapSeq (· ++vs.toArray))).objs.size=s.heap.objs.size+1:=by rw [Heap.size_update,size_push']
 have L:(((s.heap.push (68:)).update s.heap.objs.size (Obj.mapSeq (· ++vs.toArray))).push (seqObj "list" vs.toArray 0)).get? (23:)=some (seqObj "list" vs.toArray 0):=by
  rw [<-J];exact Heap.get?_push_size _ rfl
 have keep:∀b o,s.heap.get? b=some o->(((s.heap.push (68:)).update s.heap.objs.size (Obj.mapSeq (· ++vs.toArray))).push (seqObj "list" vs.toArray 0)).get? b=some o:=λb o e=>by
  have G:b<s.heap.objs.size:=Heap.lt_size e;exact Heap.get?_push_of_some _ ((Heap.get?_update_ne _ _ _ _ (Nat.ne_of_lt G)).trans (Heap.get?_push_of_some _ e))
 show wpAny _ _ _ _ _ { s with heap:=((s.heap.push (68:)).update s.heap.objs.size (Obj.mapSeq (· ++vs.toArray))).push (seqObj "list" vs.toArray 0) };rw [J];refine wpAny_bind (wpAny_holding (wpAny_call_entry slot_list_sort ⟨_,L,rfl⟩ entry_list_sort ?_ (args_list_sort _)));have U:∀(s':Shared),(∀b o,b≠s.heap.objs.size+1->(((s.heap.push (68:)).update s.heap.objs.size (Obj.mapSeq (· ++vs.toArray))).push (seqObj "list" vs.toArray 0)).get? b=some o->s'.heap.get? b=some o)->∀b o,s.heap.get? b=some o->s'.heap.get? b=some o:=λs' h b o e=>by
  have G:b<s.heap.objs.size:=Heap.lt_size e;exact h b o (λz=>by rw [z]at G;exact absurd G (Nat.not_lt.mpr (Nat.le_succ _))) (keep b o e)
 refine LC (A:=A.in1.in1) O key κ L h64 (λs' Z Y h2 hq=>hk s' _ Z (U s' Y) h2 hq) (λs' i j C Y hi hj hC=>hc s' i j C (U s' Y) hi hj hC) λp o1 o2=>⟨_,rfl,wpAny_pure ⟨_,rfl,h p o1 o2⟩⟩
theorem Od{x y:Addr}{fx sx fy sy:Value}{b:Bool}{C:Bool->Shared->Prop}(hx:s.heap.IsTuple x [fx,sx].toArray)(hy:s.heap.IsTuple y [fy,sy].toArray)
 (hne:x≠y->SeqAt.EqAt A s fx fy false/\wpAny (27:) A (oneLt' b fx fy) C (λ_ _=>False) s) (heq:x=y->SeqAt.EqAt A s fx fx true/\SeqAt.EqAt A s sx sx true/\C false s):
 wpAny (27:) A (keyLt' (tuples' b) (.ref x) (.ref y)) C E s:=by
 obtain⟨ox,U,cx,nx,dx⟩:=hx;obtain⟨oy,Y,cy,ny,G⟩:=hy;refine kat_lt U dx Y G ?_
 by_cases h:x=y
 .subst h;obtain rfl:=Option.some.inj (U.symm.trans Y);rw [dx]at G;injection G with e1 e2;have e3:[fx,sx]=[fy,sy]:=by simpa using congrArg Array.toList e1
  injection e3 with e4 Z;injection Z with e6 e7;subst e4 e6;obtain⟨J,L,q3⟩:=heq rfl;show KatLex prog w A b _ C [(fx,fx),(sx,sx)] 0 s;refine kat_cons (J _ _ _ _ (kat_yes (kat_cons (L _ _ _ _ (kat_yes (kat_nil ?_))))));exact q3
 .obtain⟨J,L⟩:=hne h;show KatLex prog w A b _ C [(fx,fy),(sx,sy)] 0 s;refine kat_cons (J _ _ _ _ (kat_no ?_));have:(b&&(0:Nat)==0)=b:=by simp
  rw [this];exact L
end
theorem OG{α:Type}{O:KeyOrd}{ts:List α}{d:α}{key:α->O.α}{p:Array Nat}(hP:Srt.Pm ts.length p)(hU:Srt.Up (O:=O) (λi=>key (ts.getD i d)) p ts.length):
 (p.toList.map λi=>ts.getD i d).Perm ts/\(p.toList.map λi=>ts.getD i d).Pairwise λx y=>O.blt (key y) (key x)=false:=by
 constructor
 .have h1:=List.Perm.map (λi=>ts.getD i d) hP;have e:(List.range ts.length).map (λi=>ts.getD i d)=ts:=by
   apply List.ext_getElem (21:);intro i a b;simp at a;simp [a]
  rwa [e]at h1
 .rw [List.pairwise_iff_getElem];intro i j hi G J;have Y:=hP.size;simp only [List.length_map,Array.length_toList]at hi G;have:=hU i j (Nat.le_of_lt J) (6:);unfold KeyOrd.kle Srt.kk at this;have L:p.getD i 0=p[i]:=by simp [Array.getD,hi]
  have U:p.getD j 0=p[j]:=by simp [Array.getD,G]
  rw [L,U]at this
  simpa using this
theorem IsTuple.keeps{h h':Heap}{a:Addr}{xs:Array Value}(k:∀b o,h.get? b=some o->h'.get? b=some o)(x:h.IsTuple a xs):h'.IsTuple a xs:=by
 obtain⟨o,e,r⟩:=x;exact⟨o,k _ _ e,r⟩
section
variable{prog:Program}{w:World}{A:Around}{E:Value->Shared->Prop}{s:Shared}
end
section
variable{X:Cx}
theorem Uc{α:Type}{f:α->Addr}:∀{ts:List α}{us:List Value},Vals (ts.map λt=>V.ref (f t)) us->us=ts.map λt=>Value.ref (f t)
 | [],_,.nil=>rfl
 | t::ts,_,.cons r rr=>by
  have e:_=Value.ref (f t):=r;rw [List.map_cons,<-Uc rr,<-e]
theorem JS{α:Type}{f:α->Addr}:∀ts:List α,Vals (ts.map λt=>V.ref (f t)) (ts.map λt=>Value.ref (f t))
 | []=>.nil
 | t::ts=>.cons rfl (JS ts)
end
end L2
namespace L2
open PySem PySem.Spec PyProof.Rows
theorem Q4:plainId "dict.update.loop"=true:=by decide+kernel
theorem Z0:entryFor table "dict.update.loop"=some Builtin.«dict.update.loop»:=entryFor_of_tree (by kernel_rfl)
theorem Jz:typeLookup (.type "list") "keys"=pure none:=by rw [typeLookup_type,builtinLookup_eq_fast];kernel_rfl
section
variable{prog:Program}{w:World}{A:Around}{E:Value->Shared->Prop}{s:Shared}
theorem Lj{a:Addr}{xs:Array Value}{k:Nat}{sl:Array (Option Value)}{Q:Option Value->Shared->Prop}(hx:s.heap.get? a=some { cls:=.type "list",dict:=none,data:=.seq xs k,slots:=sl })(hA:A.handled=none)
 (h:∀h' tk,(∀b o,s.heap.get? b=some o->h'.get? b=some o)->Q none { s with heap:=h',toks:=tk }):wpAny (27:) A (getAttr? (.ref a) "keys") Q E s:=by
 obtain⟨hp,g,d,tk,os⟩:=s;have L:∀G,(⟨hp,g,d,G,os⟩:Shared).TypeIs (.ref a) "list":=λ_=>⟨_,hx,rfl⟩;have f1:=sub_AttributeError;have f3:=F.slot_list_getattribute.lookup;have f4:=F.slot_list_getattribute.bind (.ref a);have f5:=am_list_getattr_none;unfold getAttr? getAttrBy? getAttrBy
 repeat (any_goals (first | assumption | exact L _ | ((with_reducible show wpAny _ _ (call (Value.builtin "list.__getattribute__") _ _) _ _ _);refine call_meets F.slot_list_getattribute (L _) am_entry_list_getattribute (F.args_list_getattribute_2 _ _) (meets_getattribute_miss_list a xs k sl "keys" _ Jz (1:)) ⟨hx,hA,λh' G e J=>?_⟩) | wp_step))
 obtain⟨U,Y,Z⟩:=J.there;show wpAny _ _ (getattributeRaised _ _ _ _ _ _ _) _ _ _;unfold getattributeRaised
 repeat (any_goals (first | assumption | wp_step))
 exact h _ _ J.keeps
theorem Js{h:Heap}{a b:Addr}{o u:Obj}(ha:h.get? a=some o)(hb:h.get? b=some u)(hc:o.cls≠u.cls):a≠b:=λe=>by
 subst e;rw [ha]at hb;exact hc (congrArg Obj.cls (Option.some.inj hb))
def ZI(kvs:List (Key×Value)):List (Key×Value)->List (Key×Value)
 | []=>kvs
 | p::r=>ZI (stored kvs p.1 p.2) r
theorem WO{R:Result->Shared->Prop}{l d it:Addr}{items:Array Value}(hA:A.handled=none)(hli:l≠it)(hd0:(d==sysModules)=false):∀(ps:List (Key×Value))(i:Nat)(s:Shared)(kvs:List (Key×Value)),i+ps.length=items.size->s.heap.IsListIter it l i->s.heap.IsList l items->s.heap.DictOf (Qp prog w) d kvs->kvs.length+ps.length<=sizeLine->
 (∀(j:Nat)(q:Key×Value),ps[j]?=some q->∃p u,items[i+j]?=some (.ref p)/\(Qp prog w).is q.1 u=true/\s.heap.IsTuple p #[u,q.2])->
 (∀h' tk,h'.DictOf (Qp prog w) d (ZI kvs ps)->(∀b o,b≠it->b≠d->s.heap.get? b=some o->h'.get? b=some o)->R (.ok (.ret .none)) { s with heap:=h',toks:=tk })->
 codeAny (27:) A (.builtin "dict.update.loop" ⟨[.ref d,.ref it,rawInt (i:Int),.none],[]⟩) R s
 | [],i,s,kvs,hk,Y,hL,Z,hz,hp,hR=>by
  have W:=Walks.list (prog:=prog) (w:=w) (A:=A.in1) hA it l hli items;have ao:i=items.size:=by simpa using hk
  subst ao;refine codeAny_builtin Z0 ?_;rw [Around.under_plainId Q4 _];show wpAny _ A.in1 (pyNext (.ref it)>>=_) _ _ s;refine wpAny_bind (W.done s _ _ ⟨Y,hL⟩ λh' tk aa=>?_);show wpAny _ A.in1 (Builtin.Dict.addKeywords d []>>=_) _ _ _;refine wpAny_bind (wpAny_pure (66:));have ab:d≠it:=by
   obtain⟨o,es,ep,G,U,_⟩:=Z;obtain⟨o2,J,L,_⟩:=Y;exact Js G J (by rw [U.1,L];intro z;injection z with z;exact absurd z (18:))
  exact hR h' tk (Z.extBut (b:=it) (λa o ad e=>aa a o (by simpa using ad) e) ab) (λb o h1 _ e=>aa b o (by simpa using h1) e)
 | q::ps,i,s,kvs,hk,Y,hL,Z,hz,hp,hR=>by
  have W:=Walks.list (prog:=prog) (w:=w) (A:=A.in1) hA it l hli items;obtain⟨p,u,ai,ap,aj⟩:=hp 0 q rfl;rw [Nat.add_zero]at ai;have aq:i<items.size:=by rw [List.length_cons]at hk;lia
  have ab:d≠it:=by
   obtain⟨o,es,ep,G,U,_⟩:=Z;obtain⟨o2,J,L,_⟩:=Y;exact Js G J (by rw [U.1,L];intro z;injection z with z;exact absurd z (18:))
  have ar:d≠l:=by
   obtain⟨o,es,ep,G,U,_⟩:=Z;obtain⟨o2,J,L,_⟩:=hL;exact Js G J (by rw [U.1,L];intro z;injection z with z;exact absurd z (18:))
  have ae:∀{p:Addr}{xs:Array Value},s.heap.IsTuple p xs->p≠it/\p≠d:=λ{p xs} ht=>by
   obtain⟨o,G,U,_⟩:=ht;obtain⟨o2,J,L,_⟩:=id Y;obtain⟨o3,es,ep,as,au,_⟩:=id Z;exact⟨Js G J (by rw [U,L];intro z;injection z with z;exact absurd z (18:)),Js G as (by rw [U,au.1];intro z;injection z with z;exact absurd z (18:))⟩
  refine codeAny_builtin Z0 ?_;rw [Around.under_plainId Q4 _];show wpAny _ A.in1 (pyNext (.ref it)>>=_) _ _ s;refine wpAny_bind (W.item i s _ _ aq ⟨Y,hL⟩ λv h' tk hP af aa=>?_);obtain rfl:v=.ref p:=Option.some.inj ((show items[i]?=some v from hP).symm.trans ai);have ag:∀b o,b≠it->s.heap.get? b=some o->h'.get? b=some o:=λb o hb e=>aa b o (by simpa using hb) e;have ak:h'.IsTuple p #[u,q.2]:=by
   obtain⟨o,G,r⟩:=id aj;exact⟨o,ag _ _ (ae aj).1 G,r⟩
  obtain⟨o,G,U,n,al⟩:=id ak;refine wpAny_bind (wpAny_holding ?_);refine wpAny_bind (wpAny_tryCatch ?_);unfold Builtin.Dict.pairItems;refine wpAny_bind (wpAny_typeOf (T:="tuple") (s:={ s with heap:=h',toks:=tk }) ⟨o,G,U⟩ ?_);rw [if_pos (1:)];refine wpAny_bind ?_;show wpAny _ A.in1 (load p>>=_) _ _ _;refine wpAny_bind (wpAny_load G ?_);rw [al];refine wpAny_pure (66:);have av:h'.DictOf (Qp prog w) d kvs:=Z.extBut (b:=it) (λa o ad e=>ag a o ad e) ab;refine wpAny_holding (wpAny_dictSet_pairs (s:={ s with heap:=h',toks:=tk }) ap av (λah am hs=>?_) (by rw [List.length_cons]at hz;lia));have an:ah.IsListIter it l (i+1):=by
   obtain⟨o,G,r⟩:=af.1;exact⟨o,(hs.2 it (Ne.symm ab)).trans G,r⟩
  have aw:ah.IsList l items:=by
   obtain⟨o,G,r⟩:=af.2;exact⟨o,(hs.2 l (Ne.symm ar)).trans G,r⟩
  have ac:∀b o,b≠it->b≠d->s.heap.get? b=some o->ah.get? b=some o:=λb o h1 h2 e=>(hs.2 b h2).trans (ag b o h1 e);have a0:(stored kvs q.1 q.2).length<=kvs.length+1:=by
   unfold stored;split
   .rw [List.length_map];lia
   .rw [List.length_append];simp
  refine wpAny_pure ⟨plainId_quiet Q4 _,?_⟩;refine WO hA hli hd0 ps (i+1) _ (stored kvs q.1 q.2) (by rw [List.length_cons]at hk;lia) an aw am (by rw [List.length_cons]at hz;lia) (λj r hj=>?_) λh3 ax ay az=>?_
  .obtain⟨p',u',e1,e2,e3⟩:=hp (j+1) r (by simpa using hj);refine⟨p',u',by rw [<-e1];congr 1;lia,e2,?_⟩;obtain⟨o,G,rr⟩:=id e3;exact⟨o,ac _ _ (ae e3).1 (ae e3).2 G,rr⟩
  .exact hR h3 ax ay λb o h1 h2 e=>az b o h1 h2 (ac b o h1 h2 e)
theorem W7{l:Addr}{items:Array Value}{ps:List (Key×Value)}{Q:Value->Shared->Prop}(hA:A.handled=none)(hb:sysModules<s.heap.objs.size){ol:Obj}{nl:Nat}(hl:s.heap.get? l=some ol)(hlc:ol.cls=.type "list")(hld:ol.dict=none)(hlt:ol.data=.seq items nl)(hz:ps.length<=sizeLine)(hn:ps.length=items.size)
 (hp:∀(j:Nat)(q:Key×Value),ps[j]?=some q->∃p u,items[j]?=some (.ref p)/\(Qp prog w).is q.1 u=true/\s.heap.IsTuple p #[u,q.2])
 (h:∀h' tk,h'.DictOf (Qp prog w) s.heap.objs.size (ZI [] ps)->(∀b o,s.heap.get? b=some o->h'.get? b=some o)->Q (.ref s.heap.objs.size) { s with heap:=h',toks:=tk }):
 wpAny (27:) A (call (.type "dict") [.ref l]) Q E s:=by
 refine callType_codes (Q₁:=λZ ac=>Z=.ref s.heap.objs.size/\ac={ s with heap:=s.heap.push { cls:=.type "dict",data:=.dict #[] } }) F.kt_called_dict (F.kt_typeCall_dict_1 _) F.entry_dict_init (kt_code_dict_new _ ⟨rfl,rfl⟩) ?_;rintro Z ac ⟨rfl,rfl⟩;have G:(s.heap.push { cls:=.type "dict",data:=.dict #[] }).DictOf (Qp prog w) s.heap.objs.size []:=Heap.DictOf.new s.heap;have L:(s.heap.push { cls:=.type "dict",data:=.dict #[] }).get? l=some ol:=Heap.get?_push_of_some _ hl;have hT:({ s with heap:=s.heap.push { cls:=.type "dict",data:=.dict #[] } }:Shared).TypeIs (.ref l) "list":=⟨_,L,hlc⟩;obtain⟨c1,d1,t1,s1⟩:=ol;simp only at hlc hld hlt;subst hlc hld hlt;refine⟨G.typeIs,F.args_dict_init_2 _ _,?_⟩;unfold Builtin.«dict.__init__»;refine wpAny_bind ?_;unfold Builtin.Dict.selfAndRest;refine wpAny_bind (wpAny_notOrdered_dict G.typeIs ?_);show wpAny _ _ (pure (s.heap.objs.size,[Value.ref l])) _ _ _;refine wpAny_pure ?_;show wpAny _ _ (Builtin.Dict.updateFrom "dict.__init__" s.heap.objs.size (.ref l) [] .none) _ _ _;unfold Builtin.Dict.updateFrom;refine wpAny_bind (wpAny_typeOf hT ?_);rw [if_pos (18:)];refine wpAny_bind (Lj L hA λh2 ad J=>?_);simp only [Option.isNone_none,if_true];refine wpAny_bind (wpAny_rule ?_);have aa:h2.IsList l items:=⟨_,J _ _ L,rfl,nl,rfl⟩;refine wpAny_bind (wpAny_pyIter_list (s:={ s with heap:=h2,toks:=ad }) aa ?_);have ab:l<h2.objs.size:=Heap.lt_size (J _ _ L);have af:s.heap.objs.size<h2.objs.size:=by
  obtain⟨o,es,ep,U,_⟩:=id G;exact Heap.lt_size (J _ _ U)
 have ae:h2.DictOf (Qp prog w) s.heap.objs.size []:=by
  obtain⟨o,es,ep,U,r⟩:=id G;exact⟨o,es,ep,J _ _ U,r⟩
 have Y:∀b o,s.heap.get? b=some o->h2.get? b=some o:=λb o e=>J b o (Heap.get?_push_of_some _ e);refine wpAny_pure ⟨plainId_quiet Q4 _,WO (A:=A.in1) (it:=h2.objs.size) (l:=l) (items:=items) hA (Nat.ne_of_lt ab) (beq_eq_false_iff_ne.mpr (Ne.symm (Nat.ne_of_lt hb))) ps 0 _ [] (by simpa using hn) ⟨_,Heap.get?_push_size _ rfl,rfl,rfl⟩ (aa.push _) (ae.push _) (by simpa using hz) (λj q hq=>?_) λh' tk hD hk=>⟨rfl,?_⟩⟩
 .obtain⟨p,u,e1,e2,o,U,r⟩:=hp j q hq;exact⟨p,u,by rw [Nat.zero_add];exact e1,e2,o,Heap.get?_push_of_some _ (Y _ _ U),r⟩
 .refine h h' tk hD λb o e=>hk b o ?_ ?_ (Heap.get?_push_of_some _ (Y b o e))
  .exact Nat.ne_of_lt (Heap.lt_size (Y b o e))
  .exact Nat.ne_of_lt (69:)
end
theorem Vb{kvs:List (Key×Value)}{k:Key}{v:Value}(h:k∉kvs.map (·.1)):stored kvs k v=kvs++[(k,v)]:=by
 unfold stored;rw [if_neg];intro z;obtain⟨G,h1,h2⟩:=List.any_eq_true.mp z;exact h (List.mem_map.mpr ⟨G,h1,of_decide_eq_true h2⟩)
theorem YI:∀(ps kvs:List (Key×Value)),((kvs++ps).map (·.1)).Nodup->ZI kvs ps=kvs++ps
 | [],kvs,_=>by simp [ZI]
 | p::r,kvs,h=>by
  have G:p.1∉kvs.map (·.1):=λJ=>by
   rw [List.map_append,List.nodup_append]at h;exact h.2.2 _ J _ (21:) rfl
  show ZI (stored kvs p.1 p.2) r=_;rw [Vb G];have e:kvs++[(p.1,p.2)]++r=kvs++p::r:=by simp
  rw [YI r _ (by rw [e];exact h),e]
theorem Ws{X:Cx}{pins:List (8:)}{σ:St}{H:Hp}{s:Shared}(I:Inv X pins σ H s):∀ts:List (Addr×Str×V),(∀t∈ts,SqT X.K H t.1 [.str t.2.1,t.2.2])->
 ∃ps:List (Key×Value),KV (ts.map λt=>(57:)) ps/\∀(j:Nat)(q:Key×Value),ps[j]?=some q->∃p u,(ts.map λt=>Value.ref t.1)[j]?=some (.ref p)/\(Qp X.prog X.w).is q.1 u=true/\s.heap.IsTuple p #[u,q.2]
 | [],_=>⟨[],.nil,λj q h=>by simp at h⟩
 | t::r,h=>by
  obtain⟨ps,h1,h2⟩:=Ws I r λu L=>h u (List.mem_cons_of_mem _ L);obtain⟨its,U,p,_⟩:=I.tuple (h t List.mem_cons_self);obtain⟨u,v,rfl,ru,G⟩:=U.two;refine⟨(Sum.inr t.2.1,v)::ps,.cons ⟨rfl,G⟩ h1,λj q J=>?_⟩;cases j with
  | zero=>
   have:q=(Sum.inr t.2.1,v):=by simpa using J.symm
   subst this;exact⟨t.1,u,rfl,Jf (k:=Sum.inr t.2.1) ru,p⟩
  | succ j=>
   obtain⟨Y,Z,e1,e2,e3⟩:=h2 j q (by simpa using J);exact⟨Y,Z,by simpa using e1,e2,e3⟩
theorem KV.keys'{kvs:List (Key×V)}{ps:List (Key×Value)}(r:KV kvs ps):ps.map (·.1)=kvs.map (·.1):=by
 induction r with
 | nil=>rfl
 | cons h _ G=>rw [List.map_cons,List.map_cons,G,h.1]
section
variable{X:Cx}
theorem Zp(hc:X.calm=true):QR X (.type "dict") (λxs H Q=>∃(l:Addr)(ts:List (Addr×Str×V)),xs=[.ref l]/\SqL X.K H l (67:)/\(∀t∈ts,SqT X.K H t.1 [.str t.2.1,t.2.2])/\(ts.map λt=>t.2.1).Nodup/\ts.length<=1000/\
 ∀d,H d=none->Q (.ref d) (upd H d (.dK (ts.map λt=>(57:))))):=by
 intro pins s σ H xs us Q I r h;obtain⟨l,ts,rfl,hl,ht,L,hz,q⟩:=h;cases r with
 | cons r rr=>
  cases rr;obtain rfl:_=Value.ref l:=r;obtain⟨its,rv,⟨o,n,e,c,dn,dt⟩,_⟩:=I.list hl;obtain rfl:=Uc rv;obtain⟨ps,G,U⟩:=Ws I ts ht;have J:ps.length=ts.length:=by have:=G.length;rw [List.length_map]at this;exact this.symm
  have Y:ps.length<=sizeLine:=by rw [J,sizeLine_eq];lia
  refine W7 (I.ok.hd hc) I.big e c dn dt Y (by rw [List.size_toArray,List.length_map];exact J) (λj q hq=>by simpa using U j q hq) λh' tk Z hk=>?_;have aa:((([]:List (Key×Value))++ps).map (·.1)).Nodup:=by
   rw [List.nil_append,KV.keys' G,List.map_map];have e2:(ts.map ((λx:Key×V=>x.1)∘λt=>(57:)))=(ts.map λt=>t.2.1).map (Sum.inr:Str->Key):=by rw [List.map_map];rfl
   rw [e2];exact List.Pairwise.map _ (λa b ab z=>ab (by injection z)) L
  rw [YI ps [] aa,List.nil_append]at Z;have ac:=I.hok.fresh (Nat.le_refl s.heap.objs.size);refine⟨.ref s.heap.objs.size,_,I.laid (a:=s.heap.objs.size) (o:=.dK (ts.map λt=>(57:))) (t':=tk) hk (7:) (M0 (by rw [List.length_map,sizeLine_eq];lia) (beq_eq_false_iff_ne.mpr (Ne.symm (Nat.ne_of_lt I.big))) G Z),rfl,q _ ac⟩
end
end L2
namespace L2
open PySem PySem.Spec PyProof.Rows
section
variable{X:Cx}{tg:Expr}
end
end L2
namespace TM
inductive Tree(α:Type) where
 | node (name:α) (mark:Int) (bs:List (Tree α))
variable{α:Type}
def Tree.bs:Tree α->List (Tree α)
 | .node _ _ bs=>bs
def atT:Tree α->List Int->Option (Tree α)
 | t,[]=>some t
 | t,i::r=>if 0<=i then(match t.bs[i.toNat]? with
  | some b=>atT b r
  | none=>none)else none
structure Rows(α:Type) where
 n:Nat
 nm:Nat->α
 mr:Nat->Int
 up:Nat->Nat
variable{R:Rows α}
section
variable{K:Nat->List Int}{B:Nat->Tree α}{o0:Tree α}
def it(R:Rows α):Nat->Nat->Nat
 | 0,s=>s
 | j+1,s=>R.up (it R j s)
variable{B':Nat->Tree α}{o:Tree α}{s:Nat}
end
end TM
namespace L2
open PySem PySem.Spec PyProof.Rows TM
theorem SqT.put{K:Fg}{H:Hp}{a d:Addr}{xs ys:List V}{o:HO}(h:SqT K H a xs)(hd:H d=some (.lst ys)):SqT K (upd H d o) a xs:=by
 rcases h with(h | ⟨G,h⟩) | h
 .exact .inl (.inl (by rw [Qg (ne_of h hd (10:))];exact h))
 .exact .inl (.inr ⟨G,by rw [Qg (ne_of h hd (10:))];exact h⟩)
 .exact .inr h
end L2
namespace TM
variable{α:Type}
mutual
noncomputable def sz:Tree α->Nat
 | .node _ _ bs=>1+szs bs
noncomputable def szs:List (Tree α)->Nat
 | []=>0
 | t::r=>sz t+szs r
end
mutual
noncomputable def lv:Tree α->Nat
 | .node _ _ bs=>1+lvs bs
noncomputable def lvs:List (Tree α)->Nat
 | []=>0
 | t::r=>max (lv t) (lvs r)
end
mutual
noncomputable def pl:Tree α->List (List Int)
 | .node _ _ bs=>[]::pls 0 bs
noncomputable def pls:Nat->List (Tree α)->List (List Int)
 | _,[]=>[]
 | i,t::r=>(pl t).map (List.cons (i:Int))++pls (i+1) r
end
theorem WD(t:Tree α):sz t=1+szs t.bs:=by cases t;simp [sz,Tree.bs]
theorem Q8(t:Tree α):lv t=1+lvs t.bs:=by cases t;simp [lv,Tree.bs]
theorem TL{ts:List (Tree α)}{t:Tree α}(h:t∈ts):sz t<=szs ts:=by
 induction ts with
 | nil=>cases h
 | cons u r G=>
  simp only [szs];rcases List.mem_cons.mp h with rfl | h
  .lia
  .have:=G h;lia
theorem WJ{ts:List (Tree α)}{t:Tree α}(h:t∈ts):lv t<=lvs ts:=by
 induction ts with
 | nil=>cases h
 | cons u r G=>
  simp only [lvs];rcases List.mem_cons.mp h with rfl | h
  .lia
  .have:=G h;lia
mutual
theorem XY:∀(t:Tree α)(p:List Int),p∈pl t->p.length<lv t
 | .node a m bs,p,h=>by
  simp only [pl,List.mem_cons]at h;simp only [lv];rcases h with rfl | h
  .simp;lia
  .have:=V8 0 bs p h;lia
theorem V8:∀(j:Nat)(ts:List (Tree α))(p:List Int),p∈pls j ts->p.length<=lvs ts
 | j,[],p,h=>by simp [pls]at h
 | j,u::ts,p,h=>by
  simp only [pls,List.mem_append,List.mem_map]at h;simp only [lvs];rcases h with⟨q,G,rfl⟩ | h
  .have:=XY u q G;simp;lia
  .have:=V8 (j+1) ts p h;lia
end
open HT (O9)
variable{R:Rows α}{K:Nat->List Int}{B:Nat->Tree α}{o0:Tree α}
end TM
namespace TT
open TM PySem
inductive Lab where
 | call (m b:Int)
 | put (nm:Str) (kept:Bool) (add:Int)
abbrev Tm:=Tree Lab
def OD(m b:Int):Tm:=.node (.call m b) 0 []
def lcl:Lab->List (Int×Int)
 | .call m b=>[(m,b)]
 | .put _ _ _=>[]
def lab:Tm->Lab
 | .node l _ _=>l
mutual
noncomputable def cls:Tm->List (Int×Int)
 | .node l _ bs=>lcl l++SQ bs
noncomputable def SQ:List Tm->List (Int×Int)
 | []=>[]
 | t::r=>cls t++SQ r
end
def hdF(f:Int->Int->Tm):Lab->List Tm->Tm
 | .call m b,_=>f m b
 | .put n k a,ts=>.node (.put n k a) 0 ts
mutual
noncomputable def sub(f:Int->Int->Tm):Tm->Tm
 | .node l _ bs=>hdF f l (Td f bs)
noncomputable def Td(f:Int->Int->Tm):List Tm->List Tm
 | []=>[]
 | t::r=>sub f t::Td f r
end
def look(t:Tm)(p:List Int):List (Int×Int):=match atT t p with
 | some u=>lcl (lab u)
 | none=>[]
variable{R:Rows Lab}
variable{B B':Nat->Tm}{f:Int->Int->Tm}
end TT
namespace L2
open PySem PyProof.Rows TM TT
abbrev Yn:Str:=Str.ofString "call"
abbrev PUT:Str:=Str.ofString "put"
mutual
inductive TmV(K:Fg)(H:Hp):V->Tm->Prop where
 | call {a:Addr} {m b:Int}:SqT K H a [.str Yn,.int m,.int b]->TmV K H (.ref a) (.node (.call m b) 0 [])
 | put {a b:Addr} {vs:List V} {ts:List Tm} {n:Str} {k:Bool} {ad:Int}:SqT K H a [.str PUT,.str n,.bl k,.int ad,.ref b]->SqT K H b vs->TmAll K H vs ts->vs.length<=1000->TmV K H (.ref a) (.node (.put n k ad) 0 ts)
inductive TmAll(K:Fg)(H:Hp):List V->List Tm->Prop where
 | nil:TmAll K H [] []
 | cons {v:V} {vs:List V} {t:Tm} {ts:List Tm}:TmV K H v t->TmAll K H vs ts->TmAll K H (v::vs) (t::ts)
end
mutual
theorem TmV.mono{K:Fg}{H H':Hp}(k:∀a xs,SqT K H a xs->SqT K H' a xs):∀{v:V}{t:Tm},TmV K H v t->TmV K H' v t
 | _,_,.call h=>.call (k _ _ h)
 | _,_,.put h1 h2 G J=>.put (k _ _ h1) (k _ _ h2) (TmAll.mono k G) J
theorem TmAll.mono{K:Fg}{H H':Hp}(k:∀a xs,SqT K H a xs->SqT K H' a xs):∀{vs:List V}{ts:List Tm},TmAll K H vs ts->TmAll K H' vs ts
 | _,_,.nil=>.nil
 | _,_,.cons h t=>.cons (TmV.mono k h) (TmAll.mono k t)
end
theorem TmAll.length{K:Fg}{H:Hp}:∀{vs:List V}{ts:List Tm},TmAll K H vs ts->vs.length=ts.length
 | _,_,.nil=>rfl
 | _,_,.cons _ t=>by rw [List.length_cons,List.length_cons,TmAll.length t]
theorem TmAll.get{K:Fg}{H:Hp}:∀{vs:List V}{ts:List Tm}{i:Nat}{t:Tm},TmAll K H vs ts->ts[i]?=some t->∃v,vs[i]?=some v/\TmV K H v t
 | _,_,_,_,.nil,e=>by simp at e
 | _,_,0,_,.cons h _,e=>by simp at e;subst e;exact⟨_,rfl,h⟩
 | _,_,i+1,t,.cons _ r,e=>by
  obtain⟨v,h1,h2⟩:=TmAll.get (i:=i) (t:=t) r (by simpa using e);exact⟨v,by simpa using h1,h2⟩
theorem TmAll.append{K:Fg}{H:Hp}:∀{vs ws:List V}{ts us:List Tm},TmAll K H vs ts->TmAll K H ws us->TmAll K H (vs++ws) (ts++us)
 | _,_,_,_,.nil,h=>h
 | _,_,_,_,.cons a t,h=>.cons a (TmAll.append t h)
def tdl:Lab->List PyData->PyData
 | .call m b,_=>.tuple [.str Yn,.int m,.int b]
 | .put n k a,ds=>.tuple [.str PUT,.str n,.bool k,.int a,.tuple ds]
mutual
noncomputable def tmd:Tm->PyData
 | .node l _ bs=>tdl l (JI bs)
noncomputable def JI:List Tm->List PyData
 | []=>[]
 | t::r=>tmd t::JI r
end
mutual
theorem TmV.rd{K:Fg}{H:Hp}:∀{v:V}{t:Tm},TmV K H v t->RdV K H v (tmd t)
 | _,_,.call h=>by
  simp only [tmd,tdl];exact .tup h (.cons (.str _) (.cons (.int _) (.cons (.int _) .nil)))
 | _,_,.put h1 h2 G _=>by
  simp only [tmd,tdl];exact .tup h1 (.cons (.str _) (.cons (.str _) (.cons (.bl _) (.cons (.int _) (.cons (.tup h2 (TmAll.rd G)) .nil)))))
theorem TmAll.rd{K:Fg}{H:Hp}:∀{vs:List V}{ts:List Tm},TmAll K H vs ts->RdAll K H vs (JI ts)
 | _,_,.nil=>by simp only [JI];exact .nil
 | _,_,.cons h t=>by simp only [JI];exact .cons (TmV.rd h) (TmAll.rd t)
end
def MOk(d:Nat)(t:Tm):Prop:=(tmd t).canLay0=true/\(tmd t).depth<=d
theorem MOk.mono{d e:Nat}{t:Tm}(h:MOk d t)(hd:d<=e):MOk e t:=⟨h.1,Nat.le_trans h.2 hd⟩
theorem XI{d:Nat}:∀ts:List Tm,(∀t∈ts,MOk d t)->PyData.canLayAll0 (JI ts)=true/\PyData.depthAll (JI ts)<=d
 | [],_=>by simp [JI,PyData.canLayAll0,PyData.depthAll]
 | t::r,h=>by
  obtain⟨h1,h2⟩:=h t List.mem_cons_self;obtain⟨G,L⟩:=XI r λu J=>h u (List.mem_cons_of_mem _ J);simp only [JI,PyData.canLayAll0,PyData.depthAll,h1,G,Bool.and_self,true_and];lia
theorem Nh:PyData.strOk Yn=true:=by decide+kernel
theorem Om:PyData.strOk PUT=true:=by decide+kernel
theorem Gy(m b:Int)(mk:Int)(bs:List Tm):MOk 1 (.node (.call m b) mk bs):=by
 constructor
 .simp only [tmd,tdl,PyData.canLay0,PyData.canLayAll0,Nh,Bool.and_self]
 .simp only [tmd,tdl,PyData.depth,PyData.depthAll];lia
theorem LW{d:Nat}{n:Str}{k:Bool}{a mk:Int}{ts:List Tm}(hn:PyData.strOk n=true)(h:∀t∈ts,MOk d t):MOk (d+2) (.node (.put n k a) mk ts):=by
 obtain⟨h1,h2⟩:=XI ts h;constructor
 .simp only [tmd,tdl,PyData.canLay0,PyData.canLayAll0,h1,hn,Om,Bool.and_self]
 .simp only [tmd,tdl,PyData.depth,PyData.depthAll];lia
end L2
namespace L2
open PySem PySem.Spec PyProof.Rows PySem.W
section
variable{X:Cx}
end
@[reducible] def strOrd:KeyOrd:=⟨List Nat,λa b=>decide (a<b),λa=>strKind.irrefl a,λa b c=>strKind.trans a b c,λa b c=>strKind.negTrans a b c,λa b=>strKind.total a b⟩
abbrev PNx:=Addr×Str×Addr×List Str
def PairN(h:Heap)(t:PNx):Prop:=∃(tk:Tok)(as:List Addr),h.IsTuple t.1 [Value.str t.2.1 tk,Value.ref t.2.2.1].toArray/\Reads h (.ref t.2.2.1) (.tuple (t.2.2.2.map PyData.str)) as
theorem PairN.keeps{h h':Heap}{t:PNx}(k:∀b o,h.get? b=some o->h'.get? b=some o)(x:PairN h t):PairN h' t:=by
 obtain⟨tk,G,h1,h2⟩:=x;exact⟨tk,G,IsTuple.keeps k h1,Reads.keeps k h2⟩
theorem YV{K:Fg}{H:Hp}:∀p:List Str,RdAll K H (p.map V.str) (p.map PyData.str)
 | []=>.nil
 | i::r=>.cons (.str i) (YV r)
theorem YX:∀p:List Str,(∀x∈p,PyData.strOk x=true)->PyData.canLayAll0 (p.map PyData.str)=true
 | [],_=>by simp [PyData.canLayAll0]
 | i::r,h=>by simp only [List.map_cons,PyData.canLayAll0,PyData.canLay0,YX r λx G=>h x (34:),h i List.mem_cons_self,Bool.and_self]
theorem Jc{h:Heap}:∀{ts:List PNx},(∀t∈ts,PairN h t)->∃fs:List Value,KatTups h (ts.map λt=>Value.ref t.1) fs/\(∀v∈fs,∃x t,v=Value.str x t)/\fs.length=ts.length
 | [],_=>⟨[],KatTups.nil,λv hv=>(nomatch hv),rfl⟩
 | t::r,ht=>by
  obtain⟨tk,Y,⟨o,go,G,n,J⟩,_⟩:=ht t List.mem_cons_self;obtain⟨fs,h1,h2,L⟩:=Jc λu U=>ht u (List.mem_cons_of_mem _ U);refine⟨Value.str t.2.1 tk::fs,KatTups.cons go G J rfl h1,λv hv=>?_,by simp [L]⟩;rcases List.mem_cons.mp hv with rfl | hv
  .exact⟨_,_,rfl⟩
  .exact h2 v hv
section
variable{prog:Program}{w:World}{A:Around}{E:Value->Shared->Prop}{s:Shared}
theorem LI{t u:PNx}{C:Bool->Shared->Prop}(ht:PairN s.heap t)(hu:PairN s.heap u)(hok:∀x∈t.2.2.2,PyData.strOk x=true)(hd:t.1≠u.1->t.2.1≠u.2.1)(hA:A.units+2<cLine)(h:C (decide (t.2.1.cps.toList<u.2.1.cps.toList)) s):wpAny (27:) A (keyLt' (tuples' true) (.ref t.1) (.ref u.1)) C E s:=by
 obtain⟨tk,as,h1,J⟩:=ht;obtain⟨G,aa,L,g4⟩:=hu;have lay:(PyData.tuple (t.2.2.2.map PyData.str)).canLay0=true:=by simp only [PyData.canLay0];exact YX _ hok
 have ab:(PyData.tuple (t.2.2.2.map PyData.str)).depth<=1:=by simp only [PyData.depth,Yy];lia
 refine Od h1 L (λU=>?_) (λY=>?_)
 .refine⟨?_,oneLt_str h⟩;have e:=(eqGives_str t.2.1 u.2.1 tk G).at A s;have:(t.2.1==u.2.1)=false:=by simpa using hd U
  rw [this]at e;exact e
 .refine⟨?_,?_,?_⟩
  .have e:=(eqGives_str t.2.1 t.2.1 tk tk).at A s
   simpa using e
  .have e:=SeqAt.eqAt_reads _ _ A s _ _ _ _ J J lay lay (6:);rw [Yb _ lay]at e;exact e
  .have e1:t.2.1=u.2.1:=by
    obtain⟨o,e,_,n,d⟩:=h1;obtain⟨o2,e2,_,n2,Z⟩:=L;rw [Y,e2]at e;cases e;rw [d]at Z;injection Z with z1 z2;have z3:[Value.str t.2.1 tk,Value.ref t.2.2.1]=[Value.str u.2.1 G,Value.ref u.2.2.1]:=by simpa using congrArg Array.toList z1
    injection z3 with z4 z5;injection z4
   rw [<-e1,decide_eq_false (List.lt_irrefl _)]at h;exact h
end
section
variable{X:Cx}
theorem Xx(hu:X.A.units+4<cLine):QR X (.builtin "sorted") (λxs H Q=>∃(l:Addr)(ts:List PNx),xs=[.ref l]/\SqL X.K H l (67:)/\(∀t∈ts,SqT X.K H t.1 [.str t.2.1,.ref t.2.2.1]/\SqT X.K H t.2.2.1 (t.2.2.2.map V.str)/\∀x∈t.2.2.2,PyData.strOk x=true)/\(ts.map λt=>t.2.1).Nodup/\ts.length<64/\
 ∀(out:List PNx) p,out.Perm ts->(out.Pairwise λx y=>¬y.2.1.cps.toList<x.2.1.cps.toList)->H p=none->Q (.ref p) (upd H p (.lst (out.map λt=>V.ref t.1)))):=by
 intro pins s σ H xs us Q I r h;obtain⟨l,ts,rfl,hl,ht,aa,ab,q⟩:=h;cases r with
 | cons r rr=>
  cases rr;obtain rfl:_=Value.ref l:=r;obtain⟨its,U,p,_⟩:=I.list hl;obtain rfl:=Uc U;have Y:∀t∈ts,PairN s.heap t:=λt G=>by
   obtain⟨h1,h2,_⟩:=ht t G;obtain⟨af,r1,p1,_⟩:=I.tuple h1;obtain⟨u,v,rfl,ru,U⟩:=r1.two;cases (show v=Value.ref _ from U);obtain⟨tk,rfl⟩:=(show ∃tk,u=Value.str _ tk from ru);obtain⟨as,q4⟩:=(RdV.tup h2 (YV _)).reads I (show RelV (.ref t.2.2.1) (.ref t.2.2.1)from rfl);exact⟨tk,as,p1,q4⟩
  let d:PNx:=(0,⟨#[]⟩,0,[])
  have Z:∀i,i<ts.length->(ts.map λt=>Value.ref t.1).getD i Value.none=.ref (ts.getD i d).1:=λi hi=>by simp [List.getD_eq_getElem?_getD,hi]
  have md:∀i,i<ts.length->ts.getD i d∈ts:=λi hi=>by simp [List.getD_eq_getElem?_getD,hi]
  have ek:(Value.type "str" !=Value.type "tuple")=true:=by decide+kernel
  refine VH strOrd (λi=>(ts.getD i d).2.1.cps.toList) (tuples' true) p.isList (by simpa using ab) (λs' E' Q' L h2 hq=>?_) (λs' i j C L hi J hC=>?_) λpp o1 o2=>?_
  .obtain⟨fs,f1,f2,f3⟩:=Jc (h:=s'.heap) λt G=>(Y t G).keeps L;refine kat_kind (T:=.type "str") f1 (by rw [f3];rw [List.length_map]at h2;lia) (λv hv=>?_) (1:) (by rw [ek];exact hq);obtain⟨x,t,rfl⟩:=f2 v hv;exact .now
  .rw [List.length_map]at hi J;rw [Z i hi,Z j J];refine LI ((Y _ (md i hi)).keeps L) ((Y _ (md j J)).keeps L) (ht _ (md i hi)).2.2 (λac he=>ac ?_) (by show X.A.units+1+1+2<cLine;lia) hC;have ad:i=j:=by
    have a1:(ts.map λt=>t.2.1)[i]'(by simpa using hi)=(ts.getD i d).2.1:=by simp [List.getD_eq_getElem?_getD,hi]
    have a2:(ts.map λt=>t.2.1)[j]'(by simpa using J)=(ts.getD j d).2.1:=by simp [List.getD_eq_getElem?_getD,J]
    exact(List.getElem_inj aa).mp (a1.trans (he.trans a2.symm))
   rw [ad]
  .rw [List.length_map]at o1 o2;obtain⟨w1,w2⟩:=OG (O:=strOrd) (ts:=ts) (d:=d) (key:=λt=>t.2.1.cps.toList) o1 o2;have em:(pp.toList.map λi=>(ts.map λt=>Value.ref t.1).getD i Value.none)=(pp.toList.map λi=>ts.getD i d).map λt=>Value.ref t.1:=by
    rw [List.map_map];refine List.map_congr_left λi hi=>?_;exact Z i (List.mem_range.mp (o1.mem_iff.mp hi))
   rw [em];generalize pp.toList.map (λi=>ts.getD i d)=out at w1 w2;obtain⟨e,he⟩:=sortedAll_at s.heap (ts.map λt=>Value.ref t.1) (out.map λt=>Value.ref t.1).toArray;have ae:H (23:)=none:=I.hok.fresh (Nat.le_succ _);refine⟨.ref (23:),_,I.laid (t':=s.toks) (o:=.lst (out.map λt=>V.ref t.1)) (λb o g=>sortedAll_old g) (Nat.le_succ _) ?_,rfl,q out _ w1 (w2.imp λh=>by simpa using h) ae⟩;exact⟨by rw [List.length_map,w1.length_eq,sizeLine_eq];lia,_,e,JS out,he⟩
end
end L2
namespace L2
open PySem PySem.Spec PyProof.Rows
section
variable{prog:Program}{w:World}{A:Around}{E:Value->Shared->Prop}{s:Shared}{it t:Addr}{i:Nat}{its:Array Value}{x:Value}{Q:Value->Shared->Prop}
theorem Xj(hi:s.heap.IsTupleIter it t i)(ht:s.heap.IsTuple t its)(hx:its[i]?=some x)(q:∀h',h'.IsTupleIter it t (i+1)->Heap.SameBut it s.heap h'->Q x { s with heap:=h' }):
 wpAny (27:) A (Builtin.SmallTypes.nextOf (.ref it)) Q E s:=by
 obtain⟨Y,J,L,G⟩:=id hi;obtain⟨Z,U,_,nt,dt⟩:=ht;unfold Builtin.SmallTypes.nextOf;refine wpAny_bind (wpAny_callSpecial?_slot (name:=Str.ofString "__next__") hi.typeIs F.slot_tuple_iterator_next (wpAny_call_entry F.slot_tuple_iterator_next hi.typeIs F.entry_tuple_iterator_next ?_ (F.args_tuple_iterator_next_1 _)));show wpAny _ _ (field (.ref it) 0>>=_) _ _ s;refine wpAny_bind (wpAny_field J G (x:=.ref t) rfl ?_);show wpAny _ _ (if(Value.ref t==Value.none)=true then _ else _) _ _ s;rw [if_neg (show ¬((Value.ref t==Value.none)=true)from Bool.false_ne_true)];show wpAny _ _ (field (.ref it) 1>>=_) _ _ s;refine wpAny_bind (wpAny_field J G (x:=.int i 0) rfl ?_);show wpAny _ _ (seqItems? (.ref t)>>=_) _ _ s;refine wpAny_bind (wpAny_seqItems U dt ?_);simp only [Int.toNat_natCast,hx];refine wpAny_bind (wpAny_setField J G (21:) (wpAny_pure ⟨x,rfl,wpAny_pure (q _ ⟨_,Heap.get?_update_self _ J (Obj.isFreed_of_fields (Obj.data_mapFields G _)),(Obj.cls_mapFields ..).trans L,?_⟩ (Heap.SameBut.update ..))⟩));rw [Obj.data_mapFields G];simp [rawInt]
theorem Uo(hh:A.handled=none)(hi:s.heap.IsTupleIter it t i)(ht:s.heap.IsTuple t its)(hx:its[i]?=none)
 (q:∀h' e,Heap.ExtBut it s.heap h'->(∃o,h'.get? e=some o/\o.cls=.type "StopIteration")->E (.ref e) { s with heap:=h' }):wpAny (27:) A (Builtin.SmallTypes.nextOf (.ref it)) Q E s:=by
 obtain⟨U,G,Y,J⟩:=id hi;obtain⟨Z,L,_,nt,dt⟩:=ht;unfold Builtin.SmallTypes.nextOf;refine wpAny_bind (wpAny_callSpecial?_slot (name:=Str.ofString "__next__") hi.typeIs F.slot_tuple_iterator_next (wpAny_call_entry F.slot_tuple_iterator_next hi.typeIs F.entry_tuple_iterator_next ?_ (F.args_tuple_iterator_next_1 _)));show wpAny _ _ (field (.ref it) 0>>=_) _ _ s;refine wpAny_bind (wpAny_field G J (x:=.ref t) rfl ?_);show wpAny _ _ (if(Value.ref t==Value.none)=true then _ else _) _ _ s;rw [if_neg (show ¬((Value.ref t==Value.none)=true)from Bool.false_ne_true)];show wpAny _ _ (field (.ref it) 1>>=_) _ _ s;refine wpAny_bind (wpAny_field G J (x:=.int i 0) rfl ?_);show wpAny _ _ (seqItems? (.ref t)>>=_) _ _ s;refine wpAny_bind (wpAny_seqItems L dt ?_);simp only [Int.toNat_natCast,hx];refine wpAny_bind (wpAny_rule (wpAny_bind (wpAny_setField G J (21:) ?_)));show wpAny _ _ (newExc (.type "StopIteration") []>>=_) _ _ _;simp only [newExc,newTuple];refine wpAny_bind (wpAny_bind (wpAny_newObj_type (wpAny_bind (m:=firstArgMember _ _) (wpAny_of_eq (a:=Value.none) (by first | rfl | (simp only [firstArgMember];rfl)) (wpAny_newObj_type ?_ (by size_fits)))) (by size_fits)));simp only [raiseNew];refine wpAny_bind (wpAny_handled ?_)
 first | rw [show A.in1.handled=none from hh] | rw [hh]
 exact wpAny_bind (wpAny_pure (wpAny_throw (q _ _ (((Heap.SameBut.update ..).extBut.push _).push _) ⟨_,Heap.get?_push_size _ rfl,rfl⟩)))
theorem GU(hh:A.handled=none)(hne:t≠it):Draws prog w A it [it,t] its.size (λi v=>its[i]?=some v) (λi h=>h.IsTupleIter it t i/\h.IsTuple t its) where
 live:=λ_ _ st=>let⟨o,J,_⟩:=st.1;⟨o,J⟩
 frame:=λ_ _ _ st U=>⟨st.1.at λo e=>U it (21:) o e,let⟨o,J,r⟩:=st.2;⟨o,U t (21:) o J,r⟩⟩
 item:=λi s Q E hi st Y=>Xj st.1 st.2 (x:=its[i]) (by simp [hi]) λh' L G=>Y _ h' s.toks (by simp [hi]) ⟨L,st.2.extBut G.extBut hne⟩ G
 done:=λs Q E st hE=>Uo hh st.1 st.2 (21:) hE
end
theorem Li(t:Addr)(its:Array Value)(n:Nat)(dct:Option Addr)(sl:Array (Option Value)):
 Meets (Builtin.«enumerate.__new__» ⟨[.type "enumerate",.ref t],[]⟩) (λ_ R s=>s.heap.get? t=some { cls:=.type "tuple",dict:=dct,data:=.seq its n,slots:=sl }/\
  R (.ok (.ret (.ref (47:).objs.size)))
   { s with heap:=(47:).push { cls:=.type "enumerate",data:=.fields #[.none,.bool false,.ref s.heap.objs.size,rawInt 0,.none,.none] } }):=
 .of_wp λprog w A R s h=>by
  obtain⟨hp,g,d,tk,os⟩:=s;obtain⟨G,h⟩:=h;have L:=sub_enumerate;have J:Heap.IsTuple (Shared.heap ⟨hp,g,d,tk,os⟩) t its:=⟨_,G,rfl,n,rfl⟩
  wp_walk using AutoSeq1.wpAny_loadPart' G
  refine wpAny_stack_any λst=>wpAny_pure ?_;split
  .rename_i c _ _ _ _ _;cases (c==Value.type "enumerate")<;>(wp_walk using AutoSeq1.wpAny_loadPart' G,wpAny_pyIter_tuple J;exact⟨_,rfl,h⟩)
  .wp_walk using AutoSeq1.wpAny_loadPart' G,wpAny_pyIter_tuple J
   exact⟨_,rfl,h⟩
theorem VO{prog:Program}{w:World}{A:Around}{E:Value->Shared->Prop}{s:Shared}{t:Addr}{its:Array Value}{Q:Value->Shared->Prop}(hT:s.heap.IsTuple t its)
 (h:∀h',IsEnum h' (23:) s.heap.objs.size 0 .none->h'.IsTupleIter s.heap.objs.size t 0->h'.objs.size=s.heap.objs.size+2->
  (∀b o,s.heap.get? b=some o->h'.get? b=some o)->Q (.ref (23:)) { s with heap:=h' }):
 wpAny (27:) A (call (.type "enumerate") [.ref t]) Q E s:=by
 obtain⟨⟨c,J,dt,sl⟩,hl,L,n,U⟩:=hT;simp only at L U;subst L U;refine callType_new F.called_enumerate (18:) (F.typeCall_enumerate_1 _) (F.newCall_enumerate_1 _) (λY=>F.args_object_init_2 Y _) F.entry_enumerate_new (Li t its n J sl) ⟨hl,?_⟩;have Z:(47:).objs.size=s.heap.objs.size+1:=Heap.size_push ..;have G:=Heap.get?_push_size (47:) (o:={ cls:=.type "enumerate",data:=.fields #[.none,.bool false,.ref s.heap.objs.size,rawInt 0,.none,.none] }) rfl;show _/\_;rw [Z]at G ⊢;exact⟨⟨_,G,rfl⟩,h _ G ⟨_,Heap.get?_push_of_some _ (Heap.get?_push_size _ rfl),rfl,rfl⟩ (by rw [Heap.size_push,Z]) λb o y=>Heap.get?_push_of_some _ (Heap.get?_push_of_some _ y)⟩
def Ite(K:Fg)(a:Addr):It:=
 ⟨λi H=>∃xs x,SqT K H a xs/\xs[i]?=some x,λi H x H'=>∃p v,H p=none/\x=.ref p/\H'=upd H p (.tup [.int (i:Int),v])/\∀xs,SqT K H a xs->xs[i]?=some v,λi H=>∃xs,SqT K H a xs/\xs.length<=i⟩
theorem Lc{P:Program}{w:World}{K:Fg}{elts:List Expr}{k1:Nat}{pos:Pos}(a e it:Addr)(hei:e≠it):
 Turn P w K (.Tuple elts k1 pos) (Ite K a) [e,it] e (λi h=>(∃old,IsEnum h e it (i:Nat) old)/\h.IsTupleIter it a i) where
 mem:=by simp
 obj:=λi h st c G=>by
  obtain⟨⟨old,J⟩,hi⟩:=st;simp only [List.mem_cons,List.mem_nil_iff,or_false]at G;rcases G with rfl | rfl
  .exact⟨_,J,λv z=>by have z':Data.fields _=Data.cell v:=z;cases z'⟩
  .obtain⟨o,g,c,d⟩:=hi;exact⟨o,g,λv z=>by rw [d]at z;cases z⟩
 keep:=λi h h' st k=>by
  obtain⟨⟨old,J⟩,hi⟩:=st;exact⟨⟨old,k e (21:) _ J⟩,hi.at λo g=>k it (21:) o g⟩
 item:=by
  intro X hP hw hK G i pins s σ H E I Y st hg;subst hP hw hK;obtain⟨⟨old,J⟩,hi⟩:=st;obtain⟨xs,x,Z,hx⟩:=hg;obtain⟨its,rv,p,hz⟩:=I.tuple Z;obtain⟨u,hu,ru⟩:=rv.get hx;have pt:s.heap.IsTuple a its.toArray:=p;obtain⟨oa,ga,ca,na,da⟩:=id pt;have ab:a≠e:=λz=>by
   subst z;have hE:s.heap.get? a=some _:=J;rw [hE]at ga;cases ga;exact absurd (Value.type.inj ca) (18:)
  have ac:a≠it:=λz=>by
   subst z;obtain⟨o,g,c,d⟩:=hi;rw [g]at ga;cases ga;rw [c]at ca;exact absurd (Value.type.inj ca) (18:)
  have ad:i<its.toArray.size:=by
   have:=(List.getElem?_eq_some_iff.mp hu).1
   simpa using this
  refine wpAny_pyNext_enum_itemD (GU (prog:=X.prog) (w:=X.w) (A:=X.A.in1) (it:=it) (t:=a) (its:=its.toArray) (I.ok.hd G) ac) J ⟨hi,pt⟩ ad hei (by simp only [List.mem_cons,List.mem_nil_iff,or_false,not_or];exact⟨hei,Ne.symm ab⟩) λy h' tk hy ho ae ht ao hk=>?_;have af:y=u:=by
   have:its.toArray[i]?=some u:=by simpa using hu
   exact Option.some.inj (hy.symm.trans this)
  subst af;refine⟨.ref s.heap.objs.size,rfl,wpAny_letOwnedTupleGo_enum (s:={ s with heap:=h',toks:=tk+1 }) ho λag aa U=>?_⟩;have lt:∀{c o},s.heap.get? c=some o->c≠s.heap.objs.size:=λg=>Nat.ne_of_lt (Heap.lt_size g);have ah:s.heap.objs.size≠e:=Ne.symm (lt J);have ai:∀c∈[e,it],UF X pins H c:=Y;have I2:Inv X pins σ (upd H s.heap.objs.size (.tup [.int (i:Int),x])) { s with heap:=ag,toks:=tk+1 }:=by
   refine I.turnedNew (ch:=[e,it]) (λc o G g=>?_) ai (7:) ⟨by show 2<=sizeLine;decide,[.int (i:Int) tk,y],.cons ⟨tk,rfl⟩ (.cons ru .nil),⟨_,(U.2 _ ah).trans ht,rfl,_,rfl⟩⟩;simp only [List.mem_cons,List.mem_nil_iff,or_false,not_or]at G;exact(U.2 c G.1).trans (hk c o G.1 G.2 g)
  have aj:∀c∈[e,it],upd H s.heap.objs.size (.tup [.int (i:Int),x]) c=none:=λc G=>by
   have:c≠s.heap.objs.size:=by
    have L:=G;simp only [List.mem_cons,List.mem_nil_iff,or_false]at L;rcases L with rfl | rfl
    .exact lt J
    .obtain⟨o,g,_⟩:=hi;exact lt g
   rw [Qg this];exact(Y c G).1
  exact⟨.ref s.heap.objs.size,_,I2,rfl,⟨s.heap.objs.size,x,I.fresh,rfl,rfl,λys ak=>by rw [I.tuple_inj ak Z];exact hx⟩,⟨⟨_,aa⟩,ae.1.extBut U.extBut (Ne.symm hei)⟩,aj⟩
 done:=by
  intro X hP hw hK G i pins s σ H E I Y st hg;subst hP hw hK;obtain⟨⟨old,J⟩,hi⟩:=st;obtain⟨xs,Z,hx⟩:=hg;obtain⟨its,rv,p,hz⟩:=I.tuple Z;have pt:s.heap.IsTuple a its.toArray:=p;have an:=rv.length;have hn:its.toArray.size<=i:=by simp;lia
  have hT:s.TypeIs (.ref e) "enumerate":=⟨_,J,rfl⟩;unfold pyNext;refine wpAny_bind (wpAny_attempt (wpAny_callSpecial?_slot (name:=Str.ofString "__next__") hT F.slot_enumerate_next (wpAny_call_entry F.slot_enumerate_next hT F.entry_enumerate_next ?_ (F.args_enumerate_next_1 _))));show wpAny _ _ (field (.ref e) 2>>=_) _ _ _;refine wpAny_bind (wpAny_field J rfl (x:=.ref it) rfl ?_);refine wpAny_bind (Uo (A:=X.A.in1) (I.ok.hd G) hi pt (Array.getElem?_eq_none hn) λh' y al hy=>?_);obtain⟨o,ho,am⟩:=hy;refine wpAny_bind (wpAny_isInstance (T:="StopIteration") (b:=true) ⟨o,ho,am⟩ isSubtype_stop ?_);refine wpAny_pure ⟨rfl,I.turnedL (t':=s.toks) (ch:=[e,it]) (λc u L g=>al c u (λz=>L (by rw [z];simp)) g) Y⟩
 self:=λ_ _ _ _ _ st h=>wpAny_pyIter_enum st.1.choose_spec h
section
variable{X:Cx}{elts:List Expr}{k1:Nat}{tpos:Pos}
def Tp(K:Fg)(ta:TA):TI:=λσ H R=>ta σ H λvs H1=>∃a xs,vs=[.ref a]/\SqT K H1 a xs/\R (Ite K a) H1
theorem Ob{e1:Expr}{ta:TA}{p pos:Pos}(hg:Gl X "enumerate")(hm:X.mg "enumerate"=none)(ha:PA X [e1] ta)(hb:bootBuiltins "enumerate"=some (.type "enumerate"):=by decide+kernel)(hs:starEach [e1] X.env=[(false,eval e1 X.env)]:=by rfl):
 PI X (.Tuple elts k1 tpos) (.Call (.Name "enumerate" p) [e1] [] pos) (Tp X.K ta):=by
 intro pins s σ H R I h;refine Call_ (Y1 I hg hm hb (PyProof.Rows.callWith_type1 (thn (71:) λus G ⟨vs,H1,J,Z,q1⟩=>?_) hs rfl));obtain⟨a,xs,e,hq,q⟩:=q1;subst e;cases Z with
 | cons r rr=>
  cases rr;obtain rfl:_=Value.ref a:=r;obtain⟨its,rv,pt,_⟩:=J.tuple hq;refine VO (show G.heap.IsTuple a its.toArray from pt) λh' U hi aa hk=>?_;refine wpAny_pyIter_enum U ?_;have I2:Inv X pins σ H1 { G with heap:=h' }:=J.kept (t':=G.toks) hk;refine⟨G.heap.objs.size+1,[G.heap.objs.size+1,G.heap.objs.size],_,_,H1,rfl,I2,Lc a (G.heap.objs.size+1) G.heap.objs.size (nne (6:)),⟨⟨_,U⟩,hi⟩,λc Y=>?_,q⟩;have L:@LE.le Nat _ G.heap.objs.size c:=by
   simp only [List.mem_cons,List.mem_nil_iff,or_false]at Y;rcases Y with rfl | rfl<;>lia
  exact J.fpOk L (J.hok.fresh L)
theorem MC{K:Fg}{a:Addr}{xs:List V}{g:TG}{tb:TS}{D:Ends}{σ:St}{H:Hp}(Pv:Nat->St->Hp->Prop)(h0:Pv 0 σ H)(hl:∀i σ H,i<=xs.length->Pv i σ H->SqT K H a xs)
 (hs:∀i v p σ H,xs[i]?=some v->H p=none->Pv i σ H->g (.ref p) σ (upd H p (.tup [.int (i:Int),v])) λσ2 H2=>tb { D with nx:=Pv (i+1),ct:=Pv (i+1),bk:=D.nx } σ2 H2) (hd:∀σ H,Pv xs.length σ H->D.nx σ H):
 ∃W:Nat->Nat->St->Hp->Prop,(∃m,W 0 m σ H)/\∀i m σ H,W i m σ H->
  ((Ite K a).stop i H/\D.nx σ H)\/((Ite K a).go i H/\∃N:St->Hp->Prop,(40:)/\∀x H',(Ite K a).yld i H x H'->g x σ H' λσ2 H2=>tb { D with nx:=N,ct:=N,bk:=D.nx } σ2 H2):=by
 refine⟨λi m σ H=>m=xs.length-i/\i<=xs.length/\Pv i σ H,⟨xs.length-0,rfl,Nat.zero_le _,h0⟩,?_⟩;rintro i m σ H ⟨rfl,hi,p⟩;have G:=hl i σ H hi p
 by_cases h:i<xs.length
 .refine .inr ⟨⟨xs,xs[i],G,List.getElem?_eq_getElem h⟩,Pv (i+1),λσ' H' J=>⟨xs.length-(i+1),by lia,rfl,h,J⟩,?_⟩;rintro x H' ⟨J,v,hp,rfl,rfl,L⟩;exact hs i v J σ H (L xs G) hp p
 .have e:i=xs.length:=by lia
  subst e;exact .inl ⟨⟨xs,G,Nat.le_refl _⟩,hd σ H p⟩
end
end L2
namespace L2
open PySem PySem.Spec PyProof.Rows
section
variable{prog:Program}{w:World}{A:Around}{E:Value->Shared->Prop}{s:Shared}
end
section
variable{X:Cx}{elts:List Expr}{k1:Nat}{tpos:Pos}
end
end L2
namespace L2
open PySem PySem.Spec PyProof.Rows
theorem MI(xs:List V)(k:Nat):cutV xs none (some (k:Int))=xs.take k:=by
 unfold cutV;rw [HT.sIx_none,HT.sIx_nat,List.drop_zero,Nat.sub_zero]
 by_cases h:k<=xs.length
 .rw [Nat.min_eq_left h]
 .rw [Nat.min_eq_right (6:),List.take_of_length_le (7:),List.take_of_length_le (6:)]
theorem NO{n k:Nat}(h:k<n):ixN n (k:Int)=some k:=by
 unfold ixN;rw [if_pos (6:),if_pos (6:)];simp
theorem QT:sizeLine=16777216:=by decide
theorem Zg{n:Nat}(h:n<=5000):n<=sizeLine:=by rw [QT];lia
end L2
namespace K9
open PySem L2 TM
mutual
noncomputable def isT(f:Str->Str->Option (List Str)):Tree Str->Str->Bool
 | .node n _ bs,k=>match f k n with
  | none=>false
  | some ss=>decide (ss.length=bs.length)&&S7 f bs ss
noncomputable def S7(f:Str->Str->Option (List Str)):List (Tree Str)->List Str->Bool
 | [],ss=>ss.isEmpty
 | b::bs,ss=>match ss with
  | []=>false
  | s::r=>isT f b s&&S7 f bs r
end
mutual
noncomputable def td:Tree Str->PyData
 | .node n m bs=>.tuple [.str n,.int m,.tuple (tds bs)]
noncomputable def tds:List (Tree Str)->List PyData
 | []=>[]
 | t::r=>td t::tds r
end
abbrev KdT:=Addr×Str×Addr×List PNx
def RowAt(K:Fg)(H:Hp)(t:PNx):Prop:=SqT K H t.1 [.str t.2.1,.ref t.2.2.1]/\SqT K H t.2.2.1 (t.2.2.2.map V.str)
def RowsL(K:Fg)(H:Hp)(lr:Addr)(rs:List PNx):Prop:=SqL K H lr (rs.map λt=>V.ref t.1)/\∀t∈rs,RowAt K H t
def WoodAt(K:Fg)(H:Hp)(w:Addr)(ks:List KdT):Prop:=SqL K H w (ks.map λk=>V.ref k.1)/\∀k∈ks,SqT K H k.1 [.str k.2.1,.ref k.2.2.1]/\RowsL K H k.2.2.1 k.2.2.2
theorem RowAt.same{K:Fg}{H H':Hp}{t:PNx}(g:Same H H')(h:RowAt K H t):RowAt K H' t:=⟨g.seqT h.1,g.seqT h.2⟩
theorem RowsL.same{K:Fg}{H H':Hp}{lr:Addr}{rs:List PNx}(g:Same H H')(h:RowsL K H lr rs):RowsL K H' lr rs:=⟨g.seq h.1,λt G=>(h.2 t G).same g⟩
theorem WoodAt.same{K:Fg}{H H':Hp}{w:Addr}{ks:List KdT}(g:Same H H')(h:WoodAt K H w ks):WoodAt K H' w ks:=⟨g.seq h.1,λk G=>⟨g.seqT (h.2 k G).1,(h.2 k G).2.same g⟩⟩
structure RowsOk(rs:List PNx):Prop where
 nd:(rs.map λt=>t.2.1).Nodup
 len:rs.length<=10
 nm:∀r∈rs,PyData.strOk r.2.1=true
 kn:∀r∈rs,∀x∈r.2.2.2,PyData.strOk x=true
 kl:∀r∈rs,r.2.2.2.length<=4
structure WoodOk(ks:List KdT):Prop where
 nd:(ks.map λk=>k.2.1).Nodup
 len:ks.length<=10
 rows:∀k∈ks,RowsOk k.2.2.2
def rowsK(ks:List KdT)(kind:Str):List PNx:=((ks.find? λk=>decide (k.2.1=kind)).map λk=>k.2.2.2).getD []
def Qv(ks:List KdT)(kind name:Str):Option (List Str):=((rowsK ks kind).find? λr=>decide (r.2.1=name)).map λr=>r.2.2.2
theorem YU{α:Type}(f:α->Str)(g:α->V)(z:Str):∀l:List α,Zx (l.map λx=>((Sum.inr (f x):Key),g x)) (Sum.inr z)=(l.find? λx=>decide (f x=z)).map g
 | []=>rfl
 | x::r=>by
  rw [List.map_cons,List.find?_cons]
  by_cases e:f x=z
  .rw [ZL (p:=((Sum.inr (f x):Key),g x)) (by rw [e]),decide_eq_true e];rfl
  .rw [ZK (p:=((Sum.inr (f x):Key),g x)) (λq=>e (by injection q)),decide_eq_false e];exact YU f g z r
theorem YR{ks:List KdT}(h:WoodOk ks)(kind:Str):RowsOk (rowsK ks kind):=by
 unfold rowsK;cases e:ks.find? λk=>decide (k.2.1=kind)with
 | none=>exact⟨List.nodup_nil,Nat.zero_le _,λr G=>(nomatch G),λr G=>(nomatch G),λr G=>(nomatch G)⟩
 | some k=>exact h.rows k (List.mem_of_find?_eq_some e)
theorem Og{ks:List KdT}(h:WoodOk ks){kind name:Str}{ss:List Str}(e:Qv ks kind name=some ss):(∀x∈ss,PyData.strOk x=true)/\ss.length<=4:=by
 unfold Qv at e;cases G:(rowsK ks kind).find? λr=>decide (r.2.1=name)with
 | none=>rw [G]at e;cases e
 | some r=>
  rw [G]at e;have J:=List.mem_of_find?_eq_some G;have:r.2.2.2=ss:=by simpa using e
  rw [<-this];exact⟨(YR h kind).kn r J,(YR h kind).kl r J⟩
def T6(K:Fg)(H:Hp)(v:V):Option (List Str)->Prop
 | none=>v=.non
 | some ss=>∃b,v=.ref b/\SqT K H b (ss.map V.str)
end K9
namespace K11
open PySem L2 TM TT K9
def kpl:Lab->Bool
 | .call _ _=>false
 | .put _ k _=>k
mutual
noncomputable def kp:Tm->Bool
 | .node l _ bs=>kpl l||kps bs
noncomputable def kps:List Tm->Bool
 | []=>false
 | t::r=>kp t||kps r
end
end K11
namespace L2
open PySem PySem.Spec PyProof.Rows PySem.W
section
variable{prog:Program}{w:World}{A:Around}{E:Value->Shared->Prop}{s:Shared}
end
section
variable{X:Cx}
end
end L2
namespace L2
open PySem PySem.Spec PyProof.Rows
section
variable{prog:Program}{w:World}{A:Around}{E:Value->Shared->Prop}{s:Shared}
end
section
variable{X:Cx}{elts:List Expr}{k1:Nat}{tpos:Pos}
end
end L2
namespace L2
open PySem PySem.Spec PyProof.Rows PySem.W
theorem YJ:∀{ss:List Str}{us:List Value},Vals (ss.map V.str) us->StrsAre us ss
 | [],_,.nil=>.nil
 | x::r,_,.cons h t=>by
  obtain⟨k,rfl⟩:=(show ∃t,_=Value.str x t from h);exact .cons x k (YJ t)
section
variable{X:Cx}
theorem V2:MtR X "str.join" (λx vs H Q=>∃(sep:Str)(l:Addr)(ss:List Str),x=.str sep/\vs=[.ref l]/\SqL X.K H l (ss.map V.str)/\(ss.map (·.length)).sum+ss.length*sep.length<=16777216/\Q (.str (Txt.join sep ss)) H):=by
 intro pins s σ H x xs v Y Q I G J h;obtain⟨sep,l,ss,rfl,rfl,L,U,q⟩:=h;obtain⟨t,rfl⟩:=(show ∃t,v=Value.str sep t from G);obtain⟨u,rfl,ru⟩:=J.one;obtain rfl:u=Value.ref l:=ru;obtain⟨its,r,p,_⟩:=I.list L;exact join_list p.isList (YJ r) U λZ k=>⟨.str _,H,I.tok _,(51:),q⟩
end
section
variable{prog:Program}{w:World}{A:Around}{E:Value->Shared->Prop}{s:Shared}
end
section
variable{X:Cx}{tg:Expr}
end
end L2
namespace K65
open PySem L2 TM TT K9 K11
def top(i:Nat):Stmt:=PySem.Challenge.pw_turnery_k65_pairs_of_modes.main.body.getD i (.Pass ⟨0,0,0,0⟩)
abbrev Rr:Stmt:=top 6
abbrev sCO:Stmt:=top 7
abbrev Jv:Stmt:=top 8
abbrev Vf:Stmt:=top 9
abbrev PD:Stmt:=top 11
abbrev XO:Stmt:=top 12
abbrev XN:Stmt:=top 14
abbrev Gc:Stmt:=top 15
abbrev LO:Stmt:=top 16
abbrev Vz:Stmt:=top 18
abbrev PH:Stmt:=top 20
abbrev Sa:Stmt:=top 21
abbrev Xl:Stmt:=top 24
abbrev Yf:Stmt:=top 29
abbrev Xv:Stmt:=top 30
abbrev Nb:Stmt:=top 33
abbrev Vm:Stmt:=top 34
abbrev Vt:Stmt:=top 35
abbrev VE:Stmt:=top 36
abbrev MW:Stmt:=top 37
abbrev Ja:Stmt:=top 38
abbrev Vn:Stmt:=top 39
abbrev Jq:Stmt:=top 40
abbrev NF:Stmt:=top 41
abbrev WZ:Stmt:=top 42
abbrev Mx:Stmt:=top 43
abbrev VZ:Stmt:=top 44
abbrev NG:Stmt:=top 45
abbrev sOn:Stmt:=top 46
abbrev UY:Stmt:=top 47
abbrev ZE:Stmt:=top 48
abbrev R8:Stmt:=top 49
abbrev JG:Stmt:=top 50
structure Gm(mg:Str->Option Value):Prop where
 len:mg "len"=none
 isi:mg "isinstance"=none
 int:mg "int"=none
 boo:mg "bool"=none
 str:mg "str"=none
 tup:mg "tuple"=none
 lst:mg "list"=none
 rng:mg "range"=none
 zip:mg "zip"=none
 dct:mg "dict"=none
 srt:mg "sorted"=none
 rev:mg "reversed"=none
 enu:mg "enumerate"=none
theorem Zv{K:Fg}{H:Hp}{v:V}{t:Tm}(h:TmV K H v t):(∃a m b,v=.ref a/\t=OD m b/\SqT K H a [.str Yn,.int m,.int b]) \/
 ∃a b vs n k ad,v=.ref a/\t=.node (.put n k ad) 0 t.bs/\SqT K H a [.str PUT,.str n,.bl k,.int ad,.ref b]/\SqT K H b vs/\TmAll K H vs t.bs/\vs.length<=1000:=by
 cases h with
 | call h=>exact .inl ⟨_,_,_,rfl,rfl,h⟩
 | put h1 h2 G J=>exact .inr ⟨_,_,_,_,_,_,rfl,rfl,h1,h2,G,J⟩
def ZF(K:Fg):Sp:=λvs H Q _=>∃(a:Addr)(z:Str)(r:List V),vs=[.ref a]/\SqT K H a (.str z::r)/\Q (.bl (decide (z=Yn))) H
def Z5(K:Fg):Sp:=λvs H Q _=>∃(w:Addr)(kind:Str)(ks:List KdT)(k:KdT),vs=[.ref w,.str kind]/\WoodAt K H w ks/\WoodOk ks/\ks.find? (75:)=some k/\∀(H':Hp),Same H H'->Q (.ref k.2.2.1) H'
def Uj(K:Fg):Sp:=λvs H Q _=>∃(a:Addr)(ns:List Int)(k:Int),vs=[.ref a,.int k]/\0<=k/\SqL K H a (ns.map V.int)/\∀c:Int,Q (.int c) H
def UH:Sp:=λvs H Q _=>∃i:Int,vs=[.int i]/\Q (.bl true) H
abbrev MM:Int:=2147483647
def Zc:Sp:=λvs H Q _=>∃(c k:Int),vs=[.int c,.int k]/\0<=k/\k<1000000/\∀x:Int,0<=x->x<MM->Q (.int x) H
def YT:Sp:=λvs H Q _=>∃c:Int,vs=[.int c]/\∀x:Int,Q (.int x) H
theorem OI{xs:List V}{k:Int}(hk:k=(xs.length:Int))(h:0<xs.length)(n:Int):∃v∈xs,atI xs (n%k)=some v:=by
 subst hk;have J:0<=n%(xs.length:Int):=Int.emod_nonneg _ (6:);have U:n%(xs.length:Int)<(xs.length:Int):=Int.emod_lt_of_pos _ (6:);obtain⟨y,L⟩: ∃y:Nat,n%(xs.length:Int)=(y:Int):=⟨_,(Int.toNat_of_nonneg J).symm⟩;have G:y<xs.length:=by lia
 exact⟨xs[y],List.getElem_mem G,by rw [L];exact Qo (List.getElem?_eq_getElem G)⟩
section
variable{P:Program}{w:World}{K:Fg}{mg:Str->Option Value}{base:Heap}{f:Addr}{fd:FuncData}
theorem SU:FnScope ["term"] ["term"] (defScope Rr):=(0:)
theorem P4(F:Fun K "is_call" "is_call" Rr f fd):FnOk P w K mg base CX0 1 f fd ["term"] (ZF K):=by
 refine F.ok SU (11:) (λG A outer s H vs Q E J h=>?_)
 .obtain⟨a,z,r,rfl,_⟩:=h
  rfl
 obtain⟨a,z,r,rfl,h1,q⟩:=h;refine⟨_,(Qi (Ql (YG Yo (4:) QJ (QK _)))),?_⟩
 try dsimp only [Qn,Cx.nox]
 refine⟨_,rfl,a,_,0,.str z,rfl,rfl,h1,Qo (j:=0) rfl,rfl,?_⟩;show Q (.bl (decide (V.str z=V.str Yn))) H
 by_cases e:z=Yn
 .rw [decide_eq_true e]at q;rw [decide_eq_true (by rw [e])];exact q
 .rw [decide_eq_false e]at q;rw [decide_eq_false (λh=>e (by injection h))];exact q
theorem LY:FnScope ["wood","kind"] ["wood","kind"] (defScope XO):=(0:)
theorem GQ(F:Fun K "rows_of" "rows_of" XO f fd)(G:Gm mg):FnOk P w K mg base CX0 1 f fd ["wood","kind"] (Z5 K):=by
 refine F.ok LY (11:) (λab A outer s H vs Q E hr h=>?_)
 .obtain⟨w,J,ks,k,rfl,_⟩:=h
  rfl
 obtain⟨wd,J,ks,k0,rfl,L,U,Y,q⟩:=h;refine⟨_,(Qi (Ql (MH (Z8 hr) (QI (Zp rfl) rfl G.dct PyProof.Rows.boot_dict (Qa (pv 0) Qe)) (pv 1) (Yt Qe) ⟨rfl,rfl,rfl,rfl⟩))),?_⟩
 try dsimp only [Qn,Cx.nox]
 have aa:=U.len;refine⟨_,rfl,wd,ks.map (λk=>(k.1,k.2.1,V.ref k.2.2.1)),rfl,(by rw [List.map_map];exact L.1),λt ht=>?_,(by rw [List.map_map];exact U.nd),(36:),λd hd=>⟨d,rfl,.inl ⟨_,.inl Qb⟩,_,rfl,(99:),λp hp=>⟨_,DGet.k (k:=Sum.inr J) ((Qc hp _) _ _ Qb),?_⟩⟩⟩
 .obtain⟨k,hk,rfl⟩:=List.mem_map.mp ht;exact(L.2 k hk).1
 .have g1:=Qc hd (.dK ((ks.map (λk=>(k.1,k.2.1,V.ref k.2.2.1))).map λt=>(57:)));have g2:=Qc hp (.lst []);have Z:=g1.trans g2;have ev:Zx ((ks.map (λk=>(k.1,k.2.1,V.ref k.2.2.1))).map λt=>(57:)) (Sum.inr J)=(ks.find? λk=>decide (k.2.1=J)).map λk=>V.ref k.2.2.1:=by
   rw [List.map_map];exact YU (λk:KdT=>k.2.1) (λk=>V.ref k.2.2.1) J ks
  rw [ev];rw [Y];exact q _ Z
theorem Rw:FnScope ["_law_script","_law_k"] ["_law_script","_law_k"] (defScope Nb):=(0:)
theorem Of(F:Fun K "_law_cell_at" "_law_cell_at" Nb f fd)(G:Gm mg):FnOk P w K mg base CX0 1 f fd ["_law_script","_law_k"] (Uj K):=by
 refine F.ok Rw (11:) (λZ A outer s H vs Q E hr h=>?_)
 .obtain⟨a,J,k,rfl,_⟩:=h
  rfl
 obtain⟨a,J,k,rfl,aa,L,q⟩:=h;obtain⟨j,rfl⟩: ∃j:Nat,k=(j:Int):=⟨k.toNat,by lia⟩;refine⟨_,(Qh (QM (QC WM (pv 1) (Qq Qs rfl G.len PySem.boot_len (Qa (pv 0) Qe)) (QK _)) (Qi (Ql (Qk QP (pv 0) (pv 1) (26:)))) Qr)
  (Qi (Ql Qf))),?_⟩
 try dsimp only [Qn,Cx.nox]
 refine⟨_,rfl,_,rfl,a,_,rfl,.inl L,_,_,rfl,rfl,_,rfl,WE (λc=>?_) (λc=>?_)⟩
 .have U:(j:Int)<(((J.map V.int).length:Nat):Int):=of_decide_eq_true c;rw [List.length_map]at U;have Y:j<J.length:=by lia
  exact⟨_,rfl,_,rfl,a,_,j,.int J[j],rfl,rfl,L,Qo (by rw [List.getElem?_map,List.getElem?_eq_getElem Y];rfl),q _⟩
 .exact q 0
theorem N4:FnScope ["_law_found"] ["_law_found"] (defScope WZ):=(0:)
theorem LZ(F:Fun K "_law_whole" "_law_whole" WZ f fd)(G:Gm mg):FnOk P w K mg base CX0 1 f fd ["_law_found"] UH:=by
 refine F.ok N4 (11:) (λJ A outer s H vs Q E L h=>?_)
 .obtain⟨i,rfl,_⟩:=h
  rfl
 obtain⟨i,rfl,q⟩:=h;refine⟨_,(Qi (Ql (U6 (Qq Zt rfl G.isi PyProof.Rows.boot_isinstance (Qa (pv 0) (Qa (ZS (v:=.ty "int") rfl G.int PyProof.Rows.boot_int rfl) Qe))) (Xy (LF (Qq Zt rfl G.isi PyProof.Rows.boot_isinstance (Qa (pv 0) (Qa (ZS (v:=.ty "bool") rfl G.boo PyProof.Rows.boot_bool rfl) Qe)))))))),?_⟩
 try dsimp only [Qn,Cx.nox]
 exact⟨_,rfl,_,"int",_,true,rfl,.int _,rfl,_,rfl,Zk ⟨_,rfl,_,"bool",_,false,rfl,.int _,rfl,_,rfl,q⟩⟩
theorem Xz:FnScope ["_law_cell","_law_k","_law_number"] ["_law_cell","_law_k"] (defScope Vm):=(0:)
theorem NA(F:Fun K "_law_mixed" "_law_mixed" Vm f fd):FnOk P w K mg base CX0 1 f fd ["_law_cell","_law_k"] Zc:=by
 refine F.ok Xz (11:) (λJ A outer s H vs Q E L h=>?_)
 .obtain⟨c,k,rfl,_⟩:=h
  rfl
 obtain⟨c,k,rfl,U,k1,q⟩:=h;refine⟨_,(Qh (Qz (i:=2) Xz.nd rfl (32:) (Qy Za (Qy ZC (pv 0) Qf) (Qy Yx Qf (Qy Za (pv 1) Qf))))
  (Qh (Qz (i:=2) Xz.nd rfl (32:) (Qy ZC (Qy Za (Qy Yx (pv 2) (pv 2)) (Qy Yx Qf (pv 1))) Qf))
  (Qi (Ql (Qy ZC (Qy Za (Qy Za (Qy Yx (pv 2) (pv 2)) (Qy Yx Qf (pv 1))) Qf) Qf))))),?_⟩
 try dsimp only [Qn,Cx.nox]
 refine⟨_,rfl,_,_,rfl,rfl,(by show(0:Int)<2147483647;decide),_,rfl,_,_,rfl,rfl,_,_,rfl,rfl,.inl (54:),_,_,rfl,rfl,?_⟩;dsimp only;have Y:0<=c%2147483647:=Int.emod_nonneg _ (18:);have Z:c%2147483647<2147483647:=Int.emod_lt_of_pos _ (18:);generalize hx:c%2147483647+48271*(k+1)=x;refine⟨_,rfl,_,rfl,_,_,rfl,rfl,.inl ⟨by lia,by lia⟩,_,rfl,_,_,rfl,rfl,.inl (54:),_,_,rfl,rfl,_,_,rfl,rfl,(by show(0:Int)<2147483647;decide),?_⟩;dsimp only;generalize G:(x*x+69621*k)%2147483647=y;have b0:0<=y:=by rw [<-G];exact Int.emod_nonneg _ (18:)
 have b1:y<2147483647:=by rw [<-G];exact Int.emod_lt_of_pos _ (18:)
 refine⟨_,rfl,_,rfl,_,_,rfl,rfl,.inl ⟨by lia,by lia⟩,_,rfl,_,_,rfl,rfl,.inl (54:),_,_,rfl,rfl,_,_,rfl,rfl,_,_,rfl,rfl,(by show(0:Int)<2147483647;decide),?_⟩;exact q _ (Int.emod_nonneg _ (18:)) (Int.emod_lt_of_pos _ (18:))
theorem Op:FnScope ["_law_cell"] ["_law_cell"] (defScope VE):=(0:)
theorem M9(F:Fun K "_law_great" "_law_great" VE f fd):FnOk P w K mg base CX0 1 f fd ["_law_cell"] YT:=by
 refine F.ok Op (11:) (λG A outer s H vs Q E J h=>?_)
 .obtain⟨c,rfl,_⟩:=h
  rfl
 obtain⟨c,rfl,q⟩:=h;refine⟨_,(Qi (Ql (Qy W3 (Qy ZC (pv 0) (Qy Za (Qy Yx Qf (Qy LS Qf Qf)) Qf)) (Qy LS Qf Qf)))),?_⟩
 try dsimp only [Qn,Cx.nox]
 exact⟨_,rfl,_,_,rfl,rfl,⟨by decide,by decide,by decide⟩,_,_,rfl,rfl,.inl (54:),_,_,rfl,rfl,_,_,rfl,rfl,(by show(0:Int)<2*10^58+1;decide),_,_,rfl,rfl,⟨by decide,by decide,by decide⟩,_,_,rfl,rfl,q _⟩
end
end K65
namespace K65
open PySem L2 TM TT K9 K11
theorem Wv(cs:List Nat):Txt.join (S []) (cs.map λc=>S [c])=S cs:=by
 unfold Txt.join;cases cs with
 | nil=>rfl
 | cons x r=>
  have h:∀(r:List Nat)(a:List Nat),(r.map λc=>S [c]).foldl (λacc p=>acc++(S []).cps++p.cps) (S a).cps=(S (a++r)).cps:=by
   intro r
   induction r with
   | nil=>intro a;simp
   | cons y r G=>
    intro a;rw [List.map_cons,List.foldl_cons];have e:(S a).cps++(S []).cps++(S [y]).cps=(S (a++[y])).cps:=by simp [S]
    rw [e,G,List.append_assoc];rfl
  have:=h r [x];show(⟨(r.map λc=>S [c]).foldl (λacc p=>acc++(S []).cps++p.cps) (S [x]).cps⟩:Str)=_;rw [this];rfl
abbrev Wc:Str:=Str.ofString "abcdefghijklmnopqrstuvwxyz"
def ZB:List Nat:=[97,98,99,100,101,102,103,104,105,106,107,108,109,110,111,112,113,114,115,116,117,118,119,120,121,122]
theorem Mo:Wc=S ZB:=by decide+kernel
theorem NU:Wc.cps.toList=ZB:=by rw [Mo,Lv]
theorem X6:Str.ofString ""=S []:=by decide+kernel
def Nm(z:Str):Prop:=PyData.strOk z=true
theorem Nm.of{u:List Nat}(h:∀c∈u,c<128):Nm (S u):=by
 unfold Nm PyData.strOk;rw [Array.all_eq_true_iff_forall_mem];intro c G;have:c∈u:=by simpa [S]using G
 have:=h c this;simp;lia
theorem LA{i j:Nat}(hi:i<26)(hj:j<26)(e:ZB.getD i 0=ZB.getD j 0):i=j:=by
 have G:ZB.Nodup:=by decide
 have h1:ZB.getD i 0=ZB[i]'hi:=by rw [List.getD_eq_getElem?_getD,List.getElem?_eq_getElem (show i<ZB.length from hi)];rfl
 have h2:ZB.getD j 0=ZB[j]'hj:=by rw [List.getD_eq_getElem?_getD,List.getElem?_eq_getElem (show j<ZB.length from hj)];rfl
 rw [h1,h2]at e;exact(List.getElem_inj G).mp e
theorem WU{i:Nat}(hi:i<26):ZB.getD i 0∈ZB/\ZB[i]?=some (ZB.getD i 0):=by
 have G:i<ZB.length:=hi;have e:ZB.getD i 0=ZB[i]:=by rw [List.getD_eq_getElem?_getD,List.getElem?_eq_getElem G];rfl
 rw [e];exact⟨List.getElem_mem G,List.getElem?_eq_getElem G⟩
theorem VD:∀c∈ZB,c<128:=by decide
def code(j:Nat):Nat:=ZB.getD j 0
abbrev Pn(K:Fg):V->List V->Hp->VK->Prop:=λx vs H Q=>∃(sep:Str)(l:Addr)(ss:List Str),x=.str sep/\vs=[.ref l]/\SqL K H l (ss.map V.str)/\(ss.map (·.length)).sum+ss.length*sep.length<=16777216/\Q (.str (Txt.join sep ss)) H
abbrev NV(bs:List Nat):List V:=bs.map λ(b:Nat)=>V.int (b:Int)
theorem R7{X:Cx}{K:Fg}{o e:Expr}{es:List Expr}{to:TE}{t:TA}{name:Str}{apos cpos:Pos}{T id:String}{r:V->List V->Hp->VK->Prop}(hK:X.K=K)(pa:PlainAttrs T)(slot:Slot T name id)(hty:typeOf (.builtin id)=pure (.type "method_descriptor"))(hm:MtR X id r)(ho:PE X o to)(ha:PA X (e::es) t)
 (hbase:attributeBase o name X.env (eval o X.env)=eval o X.env:=by rfl)
 (hfew:((backTo cpos (starEach (e::es) X.env)).all (λx=>!x.1)&&(backToKw cpos (keywordEach [] X.env)).all (λx=>x.1.isSome)
  &&decide ((e::es).length+([]:List Keyword).length+(61:)<30))=true:=by rfl)
 (hline:(apos.endLine==cpos.line)=true:=by rfl) (hs:starEach (e::es) X.env=(46:)::starEach es X.env:=by rfl) (hplain:(backTo cpos (starEach es X.env)).any (·.1)=false:=by rfl):
 PE X (.Call (.Attribute o name apos) (e::es) [] cpos) (tBM K T r to t):=by
 subst hK;exact U1 pa slot hty hm ho ha hbase hfew hline hs hplain
theorem Nc{X:Cx}{K:Fg}{tg l:Expr}{tl:TE}(hK:X.K=K)(hl:PE X l tl):PI X tg l (Po K tl):=by
 subst hK;exact QG hl
theorem JL{α:Type}(g:Nat->α)(n:Nat)(h:∀i j,i<n->j<n->g i=g j->i=j):((List.range n).map g).Nodup:=by
 rw [List.Nodup,List.pairwise_map];refine(List.nodup_range (n:=n)).imp_of_mem λ{a b} J L G e=>G (h a b (List.mem_range.mp J) (List.mem_range.mp L) e)
theorem Gj{bs:List Nat}(h:∀b∈bs,b<26):PyData.strOk (S (bs.map code))=true:=Nm.of λc G=>by
 obtain⟨b,J,rfl⟩:=List.mem_map.mp G;exact VD _ (WU (h b J)).1
theorem UO{cs:List Nat}(h:cs.length<=8):((cs.map λc=>S [c]).map (·.length)).sum+(cs.map λc=>S [c]).length*(S []).length<=16777216:=by
 have e:((cs.map λc=>S [c]).map (·.length))=cs.map λ_=>1:=by
  rw [List.map_map];exact List.map_congr_left λc _=>by simp [L0]
 have e2:(cs.map λ_=>1).sum=cs.length:=by
  clear e h
  induction cs with
  | nil=>rfl
  | cons x r G=>rw [List.map_cons,List.sum_cons,G,List.length_cons];lia
 rw [e,e2,L0];simp only [List.length_nil,Nat.mul_zero];lia
theorem RZ{y:Nat}(hy:y<26):atI Wc.cps.toList ((y:Nat):Int)=some (code y):=by rw [NU];exact Qo (WU hy).2
def UK(K:Fg):Sp:=λvs H Q _=>∃c:Int,vs=[.int c]/\∀(l:Addr)(H':Hp)(ns:List Str),Same H H'->H' l=some (.lst (ns.map V.str))->ns.length=8->ns.Nodup->(∀n∈ns,PyData.strOk n=true)->Q (.ref l) H'
section
variable{P:Program}{w:World}{K:Fg}{mg:Str->Option Value}{base:Heap}{f:Addr}{fd:FuncData}
theorem Zs:FnScope ["_law_cell","_law_letters","_law_base","_law_width","_law_spot","_law_names_here","_law_k","_law_moved"] ["_law_cell"] (defScope Vt):=(0:)
theorem Lw(F:Fun K "_law_names" "_law_names" Vt f fd)(G:Gm mg)(RM:Fn P w K mg base 1 "_law_mixed" ["_law_cell","_law_k"] Zc):FnOk P w K mg base CX0 2 f fd ["_law_cell"] (UK K):=by
 refine F.ok Zs (11:) (λa1 A outer s H vs Q E hr h=>?_)
 .obtain⟨c,rfl,_⟩:=h
  rfl
 obtain⟨c,rfl,q⟩:=h;refine⟨_,(Qh (Qz (i:=1) Zs.nd rfl (Or.inr rfl) QJ)
  (Qh (Qz (i:=2) Zs.nd rfl (Or.inr rfl) (QH (CompG.many (xs:=["_law_j"]) (caps:=["_law_cell"]) (cap:=[0]) (cs:=[_]) rfl rfl (1:) (1:) (1:) (1:) (1:) (1:) rfl rfl rfl) rfl (ZM rfl G.rng (Qa (Qf) Qe)) (Z7 (CompG.many (xs:=["_law_j"]) (caps:=["_law_cell"]) (cap:=[0]) (cs:=[_]) rfl rfl (1:) (1:) (1:) (1:) (1:) (1:) rfl rfl rfl)) (92:) (λ_ _ _ _=>Qy (r:=rI (λ_ j=>0<j) λi j=>.int (i%j)) ZC (QF RM hr (Qa (pv 1) (Qa (pv 0) Qe))) Qf)))
  (Qh (QM (QC Yo (Qy ZC (Qy XD (pv 0) Qf) Qf) Qf (QK _)) (Qi (Ql (QH (CompG.many (xs:=["_law_k"]) (caps:=["_law_base","_law_letters"]) (cap:=[2,1]) (cs:=[_,_]) rfl rfl (1:) (1:) (1:) (1:) (1:) (1:) rfl rfl rfl) rfl (ZM rfl G.rng (Qa (Qf) Qe)) (Z7 (CompG.many (xs:=["_law_k"]) (caps:=["_law_base","_law_letters"]) (cap:=[2,1]) (cs:=[_,_]) rfl rfl (1:) (1:) (1:) (1:) (1:) (1:) rfl rfl rfl)) (92:)
   (λ_ _ _ _=>R7 (K:=K) (r:=Pn K) rfl PySem.F.plainAttrs_str PySem.F.slot_str_join PySem.F.type_str_join V2 QJ (Qa (QH (CompG.many (xs:=["_law_j"]) (caps:=["_law_letters"]) (cap:=[2]) (cs:=[_]) rfl rfl (1:) (1:) (1:) (1:) (1:) (1:) rfl rfl rfl) rfl (Nc (K:=K) rfl (UV (r:=Rp K) XU (pv 1) Xs (XB (Qy (r:=rI0 λi j=>.int (i+j)) Za (pv 0) Qf)))) (Z7 (CompG.many (xs:=["_law_j"]) (caps:=["_law_letters"]) (cap:=[2]) (cs:=[_]) rfl rfl (1:) (1:) (1:) (1:) (1:) (1:) rfl rfl rfl)) (92:) (λ_ _ _ _=>Qk Md (pv 1) (pv 0) (26:))) Qe))))) Qr)
  (Qh (Qz (i:=3) Zs.nd rfl (32:) (Qy Za Qf (Qy ZC (pv 0) Qf)))
  (Qh (Qz (i:=4) Zs.nd rfl (32:) (Qy ZC (Qy XD (pv 0) Qf) (pv 3)))
  (Qh (Qz (i:=5) Zs.nd rfl (32:) (Yt Qe))
  (Qh (QX PassesOwn.never rfl (ZM rfl G.rng (Qa (Qf) Qe)) (Qw (i:=6) Zs.nd rfl (32:)) (Qh (Qz (i:=7) Zs.nd rfl (32:) (UV XU (pv 2) Xs (XB (pv 3))))
  (Qh (VB (Qy ZC (Qy Za (Qk QP (pv 7) (pv 4) (26:)) (pv 6)) Qf) (Pw (pv 7) (pv 4) L1))
  (Qi (QL (U1 PySem.F.plainAttrs_list PySem.F.slot_list_append PySem.F.type_list_append ZG (pv 5) (Qa (U1 (r:=Pn K) PySem.F.plainAttrs_str PySem.F.slot_str_join PySem.F.type_str_join V2 QJ (Qa (QH (CompG.many (xs:=["_law_j"]) (caps:=["_law_letters"]) (cap:=[1]) (cs:=[_]) rfl rfl (1:) (1:) (1:) (1:) (1:) (1:) rfl rfl rfl) rfl (QG (pv 7)) (Z7 (CompG.many (xs:=["_law_j"]) (caps:=["_law_letters"]) (cap:=[1]) (cs:=[_]) rfl rfl (1:) (1:) (1:) (1:) (1:) (1:) rfl rfl rfl)) (92:) (λ_ _ _ _=>Qk Md (pv 1) (pv 0) (26:))) Qe)) Qe)))))))
  (Qi (Ql (pv 5)))))))))),?_⟩
 try dsimp only [Qn,Cx.nox]
 have eL:Str.ofString "abcdefghijklmnopqrstuvwxyz"=Wc:=rfl;refine⟨8,rfl,by decide,by decide,λlb am=>?_⟩;refine YS (lo:=0) (n:=8) (cs:=[some (.int c)]) (tt:=λ_ H Q=>Q true H) (λj ys H'=>∃bs:List Nat,ys=NV bs/\bs.length=j/\(∀b∈bs,b<26)/\H' lb=some (.lst ys)/\Same H H')
  ⟨[],rfl,rfl,λb hb=>(nomatch hb),Qb,Qc am _⟩ ?_ ?_
 .rintro j ys H' hj ⟨bs,rfl,an,Z,U,g⟩;refine Zk ⟨_,rfl,_,rfl,c,0+(j:Int),rfl,by lia,by lia,λx x0 x1=>⟨_,_,rfl,rfl,(by show(0:Int)<26;decide),?_⟩⟩;have y0:0<=x%26:=Int.emod_nonneg _ (18:);have y1:x%26<26:=Int.emod_lt_of_pos _ (18:);refine QB hj U (36:) ⟨bs++[(x%26).toNat],?_,by rw [List.length_append,List.length_singleton,an],λb hb=>?_,Qb,λz u e=>?_⟩
  .unfold NV;rw [List.map_append];show _++[V.int (x%26)]=_++[V.int (((x%26).toNat:Nat):Int)];rw [Int.toNat_of_nonneg y0]
  .rcases List.mem_append.mp hb with hb | hb
   .exact Z b hb
   .have:b=(x%26).toNat:=by simpa using hb
    rw [this];lia
  .rw [Qg (Qd e am)];exact g _ _ e
 rintro ys H1 ⟨bs,rfl,an,Z,ah,g1⟩;have ai:∀(us:List Nat)(Y lu:Addr)(Hx:Hp)(R:Hp->Prop),Hx Y=none->Hx lu=some (.lst (NV us))->us.length<=8->(∀b∈us,b<26)->
  (∀H',Same Hx H'->H' Y=some (.lst (((us.map code).map λc=>S [c]).map V.str))->R H')->Uz (Itl K lu) 1 [some (.str Wc)] (Q3 0) (λ_ H Q=>Q true H) (tOp S4 (UE 1) (UE 0)) Hx Y R:=by
  intro us Y lu Hx R h2 hu a3 ao hR;have a4:lu≠Y:=λz=>by rw [z,h2]at hu;cases hu
  refine Yl (K:=K) (xs:=NV us) (cs:=[some (.str Wc)]) (λm ys H'=>ys=(((us.take m).map code).map λc=>S [c]).map V.str/\H' Y=some (.lst ys)/\Same Hx H')
   ⟨rfl,Qb,Qc h2 _⟩ ?_ ?_ ?_
  .rintro m ys H' _ ⟨_,_,g⟩;exact SqL.of (g _ _ hu)
  .rintro m x ys H' hm hx ⟨rfl,U,g⟩;have aa:m<us.length:=by simpa using hm
   obtain rfl:x=.int ((us[m]:Nat):Int):=by
    rw [List.getElem?_map,List.getElem?_eq_getElem aa]at hx;exact(Option.some.inj hx).symm
   have ar:=ao _ (List.getElem_mem aa);refine Zk ⟨_,rfl,_,rfl,Wc,_,_,rfl,rfl,(by rw [Mo,L0];exact Zg (18:)),RZ ar,?_⟩;refine QB hm U (by simp only [List.length_map,List.length_take];lia) ⟨?_,Qb,λz u e=>?_⟩
   .rw [List.take_add_one,List.getElem?_eq_getElem aa];simp only [Option.toList_some,List.map_append,List.map_cons,List.map_nil]
    rfl
   .rw [Qg (Qd e h2)];exact g _ _ e
  .rintro ys H' ⟨rfl,U,g⟩;rw [List.length_map,List.take_length]at U;exact hR H' g U
 refine⟨_,rfl,_,_,rfl,rfl,(54:),_,_,rfl,rfl,(by show(0:Int)<4;decide),rfl,_,rfl,WE (λ_=>?_) (λ_=>?_)⟩
 .refine⟨8,rfl,by decide,by decide,λln ab=>?_⟩;refine YS (lo:=0) (n:=8) (cs:=[some (.ref lb),some (.str Wc)]) (tt:=λ_ H Q=>Q true H) (λj ys H'=>ys=((List.range j).map λk=>S ((bs.take (k+1)).map code)).map V.str/\H' ln=some (.lst ys)/\Same H1 H')
   ⟨rfl,Qb,Qc ab _⟩ ?_ ?_
  .rintro j ys H' hj ⟨rfl,U,g⟩;refine Zk ⟨rfl,_,rfl,_,rfl,_,_,rfl,rfl,_,rfl,lb,_,rfl,SqL.of (g _ _ ah),λps as=>⟨ps,rfl,⟨_,SqL.of Qb⟩,λY aj=>?_⟩⟩;have ad:cutV (NV bs) none (some (0+(j:Int)+1))=NV (bs.take (j+1)):=by
    rw [show(0:Int)+(j:Int)+1=((j+1:Nat):Int)by lia,MI];unfold NV;rw [List.map_take]
   have kp:=Qc as (.lst (cutV (NV bs) none (some (0+(j:Int)+1))));refine ai (bs.take (j+1)) Y ps _ _ aj (by rw [<-ad];exact Qb) (by rw [List.length_take];lia) (λb hb=>Z b (List.mem_of_mem_take hb)) λH3 g3 h3=>?_;have k3:=kp.trans g3;refine⟨S [],Y,_,by rw [<-X6],rfl,SqL.of h3,UO (by rw [List.length_map,List.length_take];lia),?_⟩;rw [Wv];refine QB hj (k3 _ _ U) (by simp only [List.length_map,List.length_range];lia) ⟨?_,Qb,λz u e=>?_⟩
   .rw [List.range_succ,List.map_append,List.map_append];rfl
   .rw [Qg (Qd e ab)];exact k3 _ _ (g _ _ e)
  .rintro ys H' ⟨rfl,U,g⟩;refine q ln H' _ (g1.trans g) U (21:) (JL _ 8 λi j hi hj e=>?_) λx hx=>?_
   .have:=congrArg List.length (Pb e);simp only [List.length_map,List.length_take]at this;lia
   .obtain⟨k,_,rfl⟩:=List.mem_map.mp hx;exact Gj λb hb=>Z b (List.mem_of_mem_take hb)
 have w0:0<=c%8:=Int.emod_nonneg _ (18:);have w1:c%8<8:=Int.emod_lt_of_pos _ (18:);refine⟨_,rfl,_,_,rfl,rfl,(by show(0:Int)<8;decide),_,_,rfl,rfl,?_⟩;dsimp only;obtain⟨L,au⟩: ∃L:Nat,1+c%8=(L:Int):=⟨(1+c%8).toNat,by lia⟩;rw [au];have ax:0<L:=by lia
 have ay:L<=8:=by lia
 refine⟨_,rfl,_,_,rfl,rfl,(54:),_,rfl,_,_,rfl,rfl,(by show(0:Int)<(L:Int);lia),?_⟩;dsimp only;have s0:0<=c/8%(L:Int):=Int.emod_nonneg _ (6:);have s1:c/8%(L:Int)<(L:Int):=Int.emod_lt_of_pos _ (6:);obtain⟨sp,av⟩: ∃sp:Nat,c/8%(L:Int)=(sp:Int):=⟨(c/8%(L:Int)).toNat,by lia⟩;rw [av];have az:sp<L:=by lia
 obtain⟨J,ak⟩: ∃J,J=bs.take L:=(51:);have a0:J.length=L:=by rw [ak,List.length_take];lia
 have ag:∀b∈J,b<26:=λb hb=>Z b (List.mem_of_mem_take (by rw [<-ak];exact hb));have ae:sp<J.length:=by lia
 refine⟨(99:),λln ab=>?_⟩;refine⟨8,rfl,by decide,by decide,?_⟩;refine J8 (lo:=0) (n:=8) (λj σ H'=>∃c6 c7:Option V,σ=[some (.int c),some (.str Wc),some (.ref lb),some (.int (L:Int)),some (.int (sp:Int)),some (.ref ln),c6,c7]/\Same H1 H'/\H' ln=some (.lst (((List.range j).map λk=>S ((J.set sp ((J[sp]+k)%26)).map code)).map V.str)))
  ⟨none,none,rfl,Qc ab _,Qb⟩ ?_ ?_
 .rintro j σ H' hj ⟨c6,c7,rfl,g,U⟩;refine⟨_,rfl,_,rfl,_,rfl,lb,_,rfl,SqL.of (g _ _ ah),λlm ac=>?_⟩;have ad:cutV (NV bs) none (some (L:Int))=NV J:=by rw [MI,ak];unfold NV;rw [List.map_take]
  have km:=Qc ac (.lst (cutV (NV bs) none (some (L:Int))));have af:upd H' lm (.lst (cutV (NV bs) none (some (L:Int)))) lm=some (.lst (NV J)):=by rw [<-ad];exact Qb
  have ap:ln≠lm:=λz=>by rw [<-z,U]at ac;cases ac
  generalize upd H' lm (.lst (cutV (NV bs) none (some (L:Int))))=H2 at km af;have aw:atI (NV J) (sp:Int)=some (.int ((J[sp]:Nat):Int)):=Qo (by rw [List.getElem?_map,List.getElem?_eq_getElem ae];rfl);refine⟨_,rfl,_,rfl,lm,_,_,_,rfl,rfl,SqL.of af,aw,_,rfl,_,_,rfl,rfl,_,_,rfl,rfl,(by show(0:Int)<26;decide),_,rfl,_,rfl,lm,NV J,(sp:Int),sp,rfl,rfl,af,NO (by rw [List.length_map];exact ae),?_⟩;have aq:(NV J).set sp (.int ((((J[sp]:Nat):Int)+(0+(j:Int)))%26))=NV (J.set sp ((J[sp]+j)%26)):=by
   unfold NV;rw [List.map_set]
   congr 2
   lia
  rw [aq];have al:upd H2 lm (.lst (NV (J.set sp ((J[sp]+j)%26)))) ln=some (.lst (((List.range j).map λk=>S ((J.set sp ((J[sp]+k)%26)).map code)).map V.str)):=by rw [Qg ap];exact km _ _ U
  refine⟨_,rfl,.inl ⟨rfl,_,SqL.of al⟩,rfl,_,rfl,lm,rfl,⟨_,SqL.of Qb⟩,λY aj=>?_⟩;have aa:∀b∈J.set sp ((J[sp]+j)%26),b<26:=λb hb=>by
   rcases List.mem_or_eq_of_mem_set hb with hb | hb
   .exact ag b hb
   .rw [hb];exact Nat.mod_lt _ (18:)
  refine ai _ Y lm _ _ aj Qb (by rw [List.length_set];lia) aa λH4 g4 h4=>?_;refine⟨S [],Y,_,by rw [<-X6],rfl,SqL.of h4,UO (by rw [List.length_map,List.length_set];lia),?_⟩;rw [Wv];refine⟨ln,_,_,rfl,rfl,g4 _ _ al,by simp only [List.length_map,List.length_range,QT];lia,_,_,rfl,λz u e=>?_,?_⟩
  .rw [Qg (Qd e ab)];refine g4 _ _ ?_;have hz:z≠lm:=λy=>by rw [y]at e;rw [g _ _ e]at ac;cases ac
   rw [Qg hz];exact km _ _ (g _ _ e)
  .rw [Qb,List.range_succ,List.map_append,List.map_append];rfl
 .rintro σ H' ⟨c6,c7,rfl,g,U⟩;refine⟨_,rfl,q ln H' _ (g1.trans g) U (21:) (JL _ 8 λi j hi hj e=>?_) λx hx=>?_⟩
  .have e2:=congrArg (λl=>l[sp]?) (Pb e);simp only [List.getElem?_map,List.getElem?_set_self ae,Option.map_some]at e2;have e3:=LA (Nat.mod_lt _ (18:)) (Nat.mod_lt _ (18:)) (Option.some.inj e2);lia
  .obtain⟨k,_,rfl⟩:=List.mem_map.mp hx;refine Gj λb hb=>?_;rcases List.mem_or_eq_of_mem_set hb with hb | hb
   .exact ag b hb
   .rw [hb];exact Nat.mod_lt _ (18:)
end
end K65
namespace L2
open PySem
def SameX(x:Addr)(H H':Hp):Prop:=∀b u,b≠x->H b=some u->H' b=some u
theorem SameX.refl(x:Addr)(H:Hp):SameX x H H:=λ_ _ _ e=>e
theorem SameX.trans{x:Addr}{H H1 H2:Hp}(a:SameX x H H1)(b:SameX x H1 H2):SameX x H H2:=λc u n e=>b c u n (a c u n e)
theorem SameX.of{x:Addr}{H H':Hp}(h:Same H H'):SameX x H H':=λb u _ e=>h b u e
theorem SameX.upd{x:Addr}{H:Hp}{o:HO}:SameX x H (upd H x o):=λb u n e=>by rw [Qg n];exact e
structure InsAt(H:Hp)(x:Addr):Prop where
 ex:∃C dx fs,H x=some (.ins C dx fs)
theorem InsAt.seqT{K:Fg}{x:Addr}{H H':Hp}{a:Addr}{xs:List V}(i:InsAt H x)(g:SameX x H H')(h:SqT K H a xs):SqT K H' a xs:=by
 obtain⟨C,dx,fs,G⟩:=i.ex;rcases h with(h | ⟨o,h⟩) | h
 .exact .inl (.inl (g _ _ (ne_of h G (10:)) h))
 .exact .inl (.inr ⟨o,g _ _ (ne_of h G (10:)) h⟩)
 .exact .inr h
theorem InsAt.seq{K:Fg}{x:Addr}{H H':Hp}{a:Addr}{xs:List V}(i:InsAt H x)(g:SameX x H H')(h:SqL K H a xs):SqL K H' a xs:=by
 obtain⟨C,dx,fs,G⟩:=i.ex;rcases h with(h | ⟨o,h⟩) | h
 .exact .inl (.inl (g _ _ (ne_of h G (10:)) h))
 .exact .inl (.inr ⟨o,g _ _ (ne_of h G (10:)) h⟩)
 .exact .inr h
theorem InsAt.lst{x:Addr}{H H':Hp}{a:Addr}{xs:List V}(i:InsAt H x)(g:SameX x H H')(h:H a=some (.lst xs)):H' a=some (.lst xs):=by
 obtain⟨C,dx,fs,G⟩:=i.ex;exact g _ _ (ne_of h G (10:)) h
theorem InsAt.dK{x:Addr}{H H':Hp}{a:Addr}{xs:List (Key×V)}(i:InsAt H x)(g:SameX x H H')(h:H a=some (.dK xs)):H' a=some (.dK xs):=by
 obtain⟨C,dx,fs,G⟩:=i.ex;exact g _ _ (ne_of h G (10:)) h
theorem QU{f g:Str}{v y:V}{r:List (Str×V)}(h:¬g=f):Q6 f v ((g,y)::r)=(g,y)::Q6 f v r:=by
 show(if g=f then _ else _)=_;rw [if_neg h]
theorem Gb{f:Str}{v y:V}{r:List (Str×V)}:Q6 f v ((f,y)::r)=(f,v)::r:=by
 show(if f=f then _ else _)=_;rw [if_pos rfl]
end L2
namespace K65
open PySem L2 TM TT K9 K11
def UN(K:Fg):Sp:=λvs H Q _=>∃(w:Addr)(ks:List KdT)(k0:KdT),vs=[.ref w]/\WoodAt K H w ks/\ks[0]?=some k0/\∀(p b:Addr)(H':Hp),Same H H'->SqT K H' p [.str (S []),.ref b]->SqT K H' b [.str k0.2.1]->Q (.ref p) H'
def LvAt(K:Fg)(H:Hp)(sp:Addr)(L:Int):Prop:=∃(n:Int)(vd:V)(row kk:Addr)(nm:Str)(xs:List V),SqT K H sp [.int n,vd,.ref row]/\SqT K H row [.str nm,.ref kk]/\SqT K H kk xs/\L=n+(if 0<xs.length then 1 else 0)
def Gv(K:Fg):Sp:=λvs H Q _=>∃(fa sp:Addr)(y:V)(L:Int),vs=[.ref fa]/\SqT K H fa [.ref sp,y]/\LvAt K H sp L/\Q (.int L) H
abbrev WL:Stmt:=inClass (top 22) 0
abbrev YY:Stmt:=inClass (top 22) 1
abbrev JZ:Stmt:=inClass (top 22) 2
abbrev sMD:Stmt:=inClass (top 22) 3
abbrev sMF:Stmt:=inClass (top 22) 4
def YE(tu kb st wt:Addr)(fv:V):List (Str×V):=[("turning",.ref tu),("kinds_below",.ref kb),("steps",.ref st),("waiting",.ref wt),("fault",fv)]
theorem Wp(tu kb st wt:Addr)(fv v:V):Q6 "fault" v (YE tu kb st wt fv)=YE tu kb st wt v:=by
 unfold YE;rw [QU (1:),QU (1:),QU (1:),QU (1:),Gb]
def KbAt(K:Fg)(H:Hp)(kb:Addr)(ks:List KdT):Prop:=∃l:List (KdT×Addr),l.map (·.1)=ks/\H kb=some (.dK (l.map λq=>((Sum.inr q.1.2.1:Key),V.ref q.2)))/\
 ∀q∈l,H q.2=some (.dK (q.1.2.2.2.map λr=>((Sum.inr r.2.1:Key),V.ref r.2.2.1)))/\∀r∈q.1.2.2.2,SqT K H r.2.2.1 (r.2.2.2.map V.str)
theorem KbAt.insX{K:Fg}{H H':Hp}{x kb:Addr}{ks:List KdT}(i:InsAt H x)(g:SameX x H H')(h:KbAt K H kb ks):KbAt K H' kb ks:=by
 obtain⟨l,e,h1,h2⟩:=h;exact⟨l,e,i.dK g h1,λq G=>⟨i.dK g (h2 q G).1,λr J=>i.seqT g ((h2 q G).2 r J)⟩⟩
theorem KbAt.same{K:Fg}{H H':Hp}{kb:Addr}{ks:List KdT}(g:Same H H')(h:KbAt K H kb ks):KbAt K H' kb ks:=by
 obtain⟨l,e,h1,h2⟩:=h;exact⟨l,e,g _ _ h1,λq G=>⟨g _ _ (h2 q G).1,λr J=>g.seqT ((h2 q G).2 r J)⟩⟩
theorem KbAt.get{K:Fg}{H:Hp}{kb:Addr}{ks:List KdT}(h:KbAt K H kb ks){kind:Str}(hk:∃k∈ks,k.2.1=kind)(name:Str):∃(d:Addr)(o:Option V),DGet H kb (.str kind) (some (.ref d))/\IsD H d/\DGet H d (.str name) o/\T6 K H (o.getD .non) (Qv ks kind name):=by
 obtain⟨l,e,h1,h2⟩:=h;have G:ks.find? (75:)=(l.find? λq=>decide (q.1.2.1=kind)).map (·.1):=by rw [<-e,List.find?_map];rfl
 cases J:l.find? λq=>decide (q.1.2.1=kind)with
 | none=>
  rw [J]at G;obtain⟨k,hk,ek⟩:=hk;have:=List.find?_eq_none.mp G k hk;simp [ek]at this
 | some q=>
  rw [J]at G;obtain⟨L,g2⟩:=h2 q (List.mem_of_find?_eq_some J);have U:=DGet.k (k:=Sum.inr kind) h1;rw [YU (λq:KdT×Addr=>q.1.2.1) (λq=>V.ref q.2) kind l,J]at U;have Y:=DGet.k (k:=Sum.inr name) L;rw [YU (λr:PNx=>r.2.1) (λr=>V.ref r.2.2.1) name q.1.2.2.2]at Y;refine⟨q.2,_,U,.inl ⟨_,.inl L⟩,Y,?_⟩;have er:rowsK ks kind=q.1.2.2.2:=by unfold rowsK;rw [G];rfl
  unfold Qv;rw [er];cases Z:q.1.2.2.2.find? λr=>decide (r.2.1=name)with
  | none=>exact rfl
  | some r=>exact⟨_,rfl,g2 r (List.mem_of_find?_eq_some Z)⟩
theorem LvAt.mono{K:Fg}{H H':Hp}{sp:Addr}{L:Int}(k:∀a xs,SqT K H a xs->SqT K H' a xs)(h:LvAt K H sp L):LvAt K H' sp L:=by
 obtain⟨n,J,G,kk,nm,xs,h1,h2,U,e⟩:=h;exact⟨n,J,G,kk,nm,xs,k _ _ h1,k _ _ h2,k _ _ U,e⟩
structure DmT(K:Fg)(mg:Str->Option Value)(C:Addr):Prop where
 cl:Cls K C
 nT:NoAttr K C "turning"
 nK:NoAttr K C "kinds_below"
 nS:NoAttr K C "steps"
 nW:NoAttr K C "waiting"
 nF:NoAttr K C "fault"
 mgC:mg "Demands"=some (.ref C)
section
variable{P:Program}{w:World}{K:Fg}{mg:Str->Option Value}{base:Heap}{f:Addr}{fd:FuncData}
theorem NK:FnScope ["wood"] ["wood"] (defScope Vz):=(0:)
theorem Mb(F:Fun K "row_above" "row_above" Vz f fd):FnOk P w K mg base CX0 1 f fd ["wood"] (UN K):=by
 refine F.ok NK (11:) (λaa A outer s H vs Q E hr h=>?_)
 .obtain⟨w,ks,G,rfl,_⟩:=h
  rfl
 obtain⟨wd,ks,G,rfl,L,J,q⟩:=h;refine⟨_,(Qi (Ql (Qx (Qa (QJ) (Qa ((Qx (Qa (Qk Qj (Qk QP (pv 0) Qf (26:)) Qf (26:)) Qe))) Qe))))),?_⟩
 try dsimp only [Qn,Cx.nox]
 have U:atI (ks.map λk=>V.ref k.1) 0=some (.ref G.1):=Qo (j:=0) (by rw [List.getElem?_map,J];rfl);refine⟨_,rfl,wd,_,0,_,rfl,rfl,L.1,U,G.1,_,0,_,rfl,rfl,(L.2 G (List.mem_of_getElem? J)).1,rfl,(76:),λb Z=>⟨(30:),λp hp=>?_⟩⟩;have k1:=Qc Z (.tup [.str G.2.1]);have Y:=Qc hp (.tup [.str (Str.ofString ""),.ref b]);refine q p b _ (k1.trans Y) ?_ (Y.seqT (SqT.of Qb));rw [<-X6];exact SqT.of Qb
theorem O4:FnScope ["fault","spot"] ["fault"] (defScope Sa):=(0:)
theorem PU(F:Fun K "levels_needed" "levels_needed" Sa f fd)(G:Gm mg):FnOk P w K mg base CX0 1 f fd ["fault"] (Gv K):=by
 refine F.ok O4 (11:) (λaa A outer s H vs Q E hr h=>?_)
 .obtain⟨J,sp,y,L,rfl,_⟩:=h
  rfl
 obtain⟨J,sp,y,L,rfl,U,⟨n,vd,Y,kk,nm,xs,h1,h2,h3,rfl⟩,q⟩:=h;refine⟨_,(Qh (Qz (i:=1) O4.nd rfl (32:) (4:))
  (Qi (Ql (Qy Za (20:) (Jm (QC NC (Qq Qs rfl G.len PySem.boot_len (Qa (Qk Qj (20:) Qf (26:)) Qe)) Qf (QK _)) Qf Qf))))),?_⟩
 try dsimp only [Qn,Cx.nox]
 refine⟨_,rfl,J,_,0,_,rfl,rfl,U,rfl,?_⟩;refine⟨_,rfl,sp,_,0,_,rfl,rfl,h1,rfl,_,rfl,sp,_,2,_,rfl,rfl,h1,rfl,Y,_,1,_,rfl,rfl,h2,rfl,kk,xs,rfl,.inr h3,_,_,rfl,rfl,_,rfl,?_⟩
 by_cases Z:0<xs.length
 .rw [if_pos Z]at q;refine UC (show(((xs.length:Nat):Int)>0)by lia) ⟨_,_,rfl,rfl,q⟩
 .rw [if_neg Z]at q;refine Jy (show ¬(((xs.length:Nat):Int)>0)by lia) ⟨_,_,rfl,rfl,q⟩
end
end K65
namespace K65
open PySem L2 TM TT K9 K11
abbrev RK:=Str->Str->Option (List Str)
abbrev Dd:=Int×Str
def dmd(f:RK):Nat->Tm->Str->List Dd
 | 0,_,_=>[]
 | n+1,t,k=>match lab t with
  | .call m _=>[(m,k)]
  | .put nm _ _=>match f k nm with
   | some ss=>if ss.length=t.bs.length then(t.bs.zip ss).flatMap λp=>dmd f n p.1 p.2 else []
   | none=>[]
def okk(f:RK):Nat->Tm->Str->Prop
 | 0,_,_=>False
 | n+1,t,k=>match lab t with
  | .call _ _=>True
  | .put nm _ _=>∃ss,f k nm=some ss/\ss.length=t.bs.length/\∀p∈t.bs.zip ss,okk f n p.1 p.2
def TmB(nm:Nat):Nat->Tm->Prop
 | 0,_=>False
 | d+1,t=>(∀m b,lab t=.call m b->0<=m/\m<(nm:Int))/\t.bs.length<=100/\∀b∈t.bs,TmB nm d b
def YO(ds:List Dd)(d:Dd):List Dd:=if d∈ds then ds else ds++[d]
def YC(ds l:List Dd):List Dd:=l.foldl YO ds
theorem Wn(ds l r:List Dd):YC ds (l++r)=YC (YC ds l) r:=List.foldl_append ..
theorem LQ{ds:List Dd}{d e:Dd}:e∈YO ds d↔e∈ds\/e=d:=by
 unfold YO
 by_cases h:d∈ds
 .rw [if_pos h];exact⟨.inl,λz=>z.elim id λz=>by rw [z];exact h⟩
 .rw [if_neg h];simp
theorem Zo{e:Dd}:∀{l ds:List Dd},e∈YC ds l↔e∈ds\/e∈l
 | [],ds=>by simp [YC]
 | d::l,ds=>by
  show e∈YC (YO ds d) l↔_;rw [Zo,LQ,List.mem_cons,or_assoc]
theorem Va{ds:List Dd}{d:Dd}(h:ds.Nodup):(YO ds d).Nodup:=by
 unfold YO
 by_cases e:d∈ds
 .rw [if_pos e];exact h
 .rw [if_neg e];exact List.nodup_append.mpr ⟨h,by simp,λa G b J=>by
   have:b=d:=by simpa using J
   subst this;exact λz=>e (by rw [<-z];exact G)⟩
theorem Wq:∀{l ds:List Dd},∃r,YC ds l=ds++r
 | [],ds=>⟨[],by simp [YC]⟩
 | d::l,ds=>by
  obtain⟨r,e⟩:=Wq (l:=l) (ds:=YO ds d)
  by_cases h:d∈ds
  .have e1:YO ds d=ds:=if_pos h;rw [e1]at e;exact⟨r,by show YC (YO ds d) l=_;rw [e1];exact e⟩
  .have e1:YO ds d=ds++[d]:=if_neg h;rw [e1]at e;exact⟨d::r,by show YC (YO ds d) l=_;rw [e1,e,List.append_assoc];rfl⟩
structure WG(ks:List KdT):Prop where
 ok:WoodOk ks
 cl:∀k∈ks,∀r∈k.2.2.2,∀s∈r.2.2.2,∃k'∈ks,k'.2.1=s
theorem Nz{ks:List KdT}(hW:WG ks){kind name s:Str}{ss:List Str}(e:Qv ks kind name=some ss)(hs:s∈ss):∃k∈ks,k.2.1=s:=by
 unfold Qv at e;cases J:(rowsK ks kind).find? λr=>decide (r.2.1=name)with
 | none=>rw [J]at e;cases e
 | some r=>
  rw [J]at e;have h1:r.2.2.2=ss:=by simpa using e
  have G:=List.mem_of_find?_eq_some J;unfold rowsK at G;cases L:ks.find? λk=>decide (k.2.1=kind)with
  | none=>rw [L]at G;cases G
  | some k=>
   rw [L]at G;exact hW.cl k (List.mem_of_find?_eq_some L) r G s (by rw [h1];exact hs)
def DOk(nm:Nat)(ks:List KdT)(d:Dd):Prop:=0<=d.1/\d.1<(nm:Int)/\∃k∈ks,k.2.1=d.2
theorem Vj{α:Type} [DecidableEq α]:∀{l r:List α},l.Nodup->(∀x∈l,x∈r)->l.length<=r.length
 | [],_,_,_=>Nat.zero_le _
 | x::l,r,hn,hs=>by
  rw [List.nodup_cons]at hn;have h1:=hs x List.mem_cons_self;have h2:l.length<=(r.erase x).length:=Vj hn.2 λy G=>by
   have J:=hs y (34:);have L:y≠x:=λe=>hn.1 (by rw [<-e];exact G);exact(List.mem_erase_of_ne L).mpr J
  rw [List.length_erase_of_mem h1]at h2;have:=List.length_pos_of_mem h1;simp only [List.length_cons];lia
theorem JW{nm:Nat}{ks:List KdT}{ds:List Dd}(hn:ds.Nodup)(h:∀d∈ds,DOk nm ks d):ds.length<=nm*ks.length:=by
 have:=Vj (l:=ds) (r:=(List.range nm).flatMap λi=>ks.map λk=>(((i:Nat):Int),k.2.1)) hn λd G=>by
  obtain⟨h1,h2,k,J,e⟩:=h d G;refine List.mem_flatMap.mpr ⟨d.1.toNat,List.mem_range.mpr (6:),List.mem_map.mpr ⟨k,J,?_⟩⟩;rw [e,Int.toNat_of_nonneg h1]
 have e:∀n:Nat,((List.range n).flatMap λi=>ks.map λk=>(((i:Nat):Int),k.2.1)).length=n*ks.length:=λn=>by
  induction n with
  | zero=>simp
  | succ n L=>rw [List.range_succ,List.flatMap_append,List.length_append,L,Nat.succ_mul];simp
 rw [e]at this;exact this
def SameD(x st wt:Addr)(H H':Hp):Prop:=∀b u,b≠x->b≠st->b≠wt->H b=some u->H' b=some u
theorem SameD.refl(x st wt:Addr)(H:Hp):SameD x st wt H H:=λ_ _ _ _ _ e=>e
theorem SameD.trans{x st wt:Addr}{H H1 H2:Hp}(a:SameD x st wt H H1)(b:SameD x st wt H1 H2):SameD x st wt H H2:=λc u G J L e=>b c u G J L (a c u G J L e)
theorem SameD.of{x st wt:Addr}{H H':Hp}(h:Same H H'):SameD x st wt H H':=λb u _ _ _ e=>h b u e
def FvO(K:Fg)(H:Hp)(fv:V):Prop:=fv=.non\/∃fa sp y L,fv=.ref fa/\SqT K H fa [.ref sp,y]/\LvAt K H sp L
def StpOk(K:Fg)(H:Hp)(v:V):Prop:=∃a sp y z n vd row,v=.ref a/\SqT K H a [.ref sp,y,z]/\SqT K H sp [.int n,vd,.ref row]
structure DmS(K:Fg)(C:Addr)(nm:Nat)(ks:List KdT)(H:Hp)(x dx tu kb st wt:Addr)(fv:V)(ds:List Dd):Prop where
 hx:H x=some (.ins C dx (YE tu kb st wt fv))
 hst:∃kvs:List (Dd×V),kvs.map (·.1)=ds/\H st=some (.dT (kvs.map λq=>([Sum.inl q.1.1,Sum.inr q.1.2],q.2)))/\∀q∈kvs,StpOk K H q.2
 hwt:∃ws:List (Addr×Dd),ws.map (·.2)=ds/\H wt=some (.lst (ws.map λq=>V.ref q.1))/\∀q∈ws,H q.1=some (.tup [.int q.2.1,.str q.2.2])
 nd:ds.Nodup
 dk:∀d∈ds,DOk nm ks d
 fo:FvO K H fv
theorem FvO.mono{K:Fg}{H H':Hp}{fv:V}(k:∀a xs,SqT K H a xs->SqT K H' a xs)(h:FvO K H fv):FvO K H' fv:=by
 rcases h with h | ⟨G,sp,y,L,e,h1,h2⟩
 .exact .inl h
 .exact .inr ⟨G,sp,y,L,e,k _ _ h1,h2.mono k⟩
theorem StpOk.mono{K:Fg}{H H':Hp}{v:V}(k:∀a xs,SqT K H a xs->SqT K H' a xs)(h:StpOk K H v):StpOk K H' v:=by
 obtain⟨a,sp,y,z,n,J,G,e,h1,h2⟩:=h;exact⟨a,sp,y,z,n,J,G,e,k _ _ h1,k _ _ h2⟩
section
variable{K:Fg}{C:Addr}{nm:Nat}{ks:List KdT}{H H':Hp}{x dx tu kb st wt:Addr}{fv:V}{ds:List Dd}
theorem DmS.tup(D:DmS K C nm ks H x dx tu kb st wt fv ds)(g:SameD x st wt H H'){a:Addr}{xs:List V}(h:H a=some (.tup xs)):H' a=some (.tup xs):=by
 obtain⟨kvs,_,h1,_⟩:=D.hst;obtain⟨G,_,h2,_⟩:=D.hwt;exact g _ _ (ne_of h D.hx (10:)) (ne_of h h1 (by intro z;cases z)) (ne_of h h2 (by intro z;cases z)) h
theorem DmS.dKs(D:DmS K C nm ks H x dx tu kb st wt fv ds)(g:SameD x st wt H H'){a:Addr}{xs:List (Key×V)}(h:H a=some (.dK xs)):H' a=some (.dK xs):=by
 obtain⟨kvs,_,h1,_⟩:=D.hst;obtain⟨G,_,h2,_⟩:=D.hwt;exact g _ _ (ne_of h D.hx (10:)) (ne_of h h1 (by intro z;cases z)) (ne_of h h2 (by intro z;cases z)) h
theorem DmS.seqT(D:DmS K C nm ks H x dx tu kb st wt fv ds)(g:SameD x st wt H H'){a:Addr}{xs:List V}(h:SqT K H a xs):SqT K H' a xs:=by
 obtain⟨kvs,_,h1,_⟩:=D.hst;obtain⟨G,_,h2,_⟩:=D.hwt;rcases h with(h | ⟨o,h⟩) | h
 .exact .inl (.inl (D.tup g h))
 .exact .inl (.inr ⟨o,g _ _ (ne_of h D.hx (10:)) (ne_of h h1 (by intro z;cases z)) (ne_of h h2 (by intro z;cases z)) h⟩)
 .exact .inr h
theorem DmS.kbAt(D:DmS K C nm ks H x dx tu kb st wt fv ds)(g:SameD x st wt H H'){kb':Addr}{ks':List KdT}(h:KbAt K H kb' ks'):KbAt K H' kb' ks':=by
 obtain⟨l,e,h1,h2⟩:=h;exact⟨l,e,D.dKs g h1,λq G=>⟨D.dKs g (h2 q G).1,λr J=>D.seqT g ((h2 q G).2 r J)⟩⟩
theorem DmS.same(D:DmS K C nm ks H x dx tu kb st wt fv ds)(g:Same H H'):DmS K C nm ks H' x dx tu kb st wt fv ds:=by
 obtain⟨kvs,J,a2,L⟩:=D.hst;obtain⟨U,Y,b2,Z⟩:=D.hwt;exact⟨g _ _ D.hx,⟨kvs,J,g _ _ a2,λq G=>(L q G).mono λ_ _=>g.seqT⟩,⟨U,Y,g _ _ b2,λq G=>g _ _ (Z q G)⟩,D.nd,D.dk,D.fo.mono λ_ _=>g.seqT⟩
theorem DmS.fault(D:DmS K C nm ks H x dx tu kb st wt fv ds){fv':V}(h:FvO K H fv'):DmS K C nm ks (upd H x (.ins C dx (YE tu kb st wt fv'))) x dx tu kb st wt fv' ds/\SameD x st wt H (upd H x (.ins C dx (YE tu kb st wt fv'))):=by
 have g:SameD x st wt H (upd H x (.ins C dx (YE tu kb st wt fv'))):=λb u n _ _ e=>by rw [Qg n];exact e
 obtain⟨kvs,J,a2,L⟩:=id D.hst;obtain⟨U,Y,b2,Z⟩:=id D.hwt;refine⟨⟨Qb,⟨kvs,J,?_,λq G=>(L q G).mono λ_ _=>D.seqT g⟩,⟨U,Y,?_,λq G=>D.tup g (Z q G)⟩,D.nd,D.dk,h.mono λ_ _=>D.seqT g⟩,g⟩
 .rw [Qg (ne_of a2 D.hx (10:))];exact a2
 .rw [Qg (ne_of b2 D.hx (10:))];exact b2
end
theorem OV{d e:Dd}(h:([Sum.inl d.1,Sum.inr d.2]:List Key)=[Sum.inl e.1,Sum.inr e.2]):d=e:=by
 injection h with h1 h2;injection h2 with h2;injection h1 with h1;injection h2 with h2;exact Prod.ext h1 h2
theorem Vd(d:Dd):∀kvs:List (Dd×V),Zx (kvs.map λq=>(37:)) [Sum.inl d.1,Sum.inr d.2]=(kvs.find? λq=>decide (q.1=d)).map (·.2)
 | []=>rfl
 | q::r=>by
  rw [List.map_cons,List.find?_cons]
  by_cases e:q.1=d
  .rw [ZL (p:=(37:)) (by rw [e]),decide_eq_true e];rfl
  .rw [ZK (p:=(37:)) (λz=>e (OV z)),decide_eq_false e];exact Vd d r
def On(K:Fg)(C:Addr):Sp:=λvs H Q _=>∃(nm:Nat)(ks:List KdT)(x dx tu kb st wt sp fa:Addr)(y fv:V)(ds:List Dd)(L:Int),vs=[.ref x,.ref fa]/\DmS K C nm ks H x dx tu kb st wt fv ds/\SqT K H fa [.ref sp,y]/\LvAt K H sp L/\
 ∀(H':Hp)(fv':V),SameD x st wt H H'->DmS K C nm ks H' x dx tu kb st wt fv' ds->fv'≠.non->Q .non H'
def R6(K:Fg)(C:Addr):Sp:=λvs H Q _=>∃(nm:Nat)(ks:List KdT)(x dx tu kb st wt dp:Addr)(sv fv:V)(ds:List Dd)(d:Dd),vs=[.ref x,.ref dp,sv]/\DmS K C nm ks H x dx tu kb st wt fv ds/\H dp=some (.tup [.int d.1,.str d.2])/\StpOk K H sv/\DOk nm ks d/\nm*ks.length<=1000/\
 ∀(H':Hp),SameD x st wt H H'->DmS K C nm ks H' x dx tu kb st wt fv (YO ds d)->Q .non H'
section
variable{P:Program}{w:World}{K:Fg}{mg:Str->Option Value}{base:Heap}{f:Addr}{fd:FuncData}{C:Addr}
theorem Aa:FnScope ["self","fault"] ["self","fault"] (defScope sMF):=(0:)
theorem Sk(F:Fun K "meet_fault" "Demands.meet_fault" sMF f fd)(T:DmT K mg C)(RL:Fn P w K mg base 1 "levels_needed" ["fault"] (Gv K)):FnOk P w K mg base CX0 2 f fd ["self","fault"] (On K C):=by
 refine F.ok Aa (11:) (λac A outer s H vs Q E hr h=>?_)
 .obtain⟨nm,ks,x,dx,tu,kb,st,wt,sp,J,y,fv,ds,L,rfl,_⟩:=h
  rfl
 obtain⟨nm,ks,x,dx,tu,kb,st,wt,sp,J,y,fv,ds,L,rfl,D,Y,hL,Z⟩:=h;refine⟨_,(Qi (QM (PW.pt (pw_or (Xf (ND (Q5 (pv 0) rfl))) (pw_or1 (QC WM (QF RL hr (Qa (pv 1) Qe)) (QF RL hr (Qa (Q5 (pv 0) rfl) Qe)) (QK _))))) (Qi (Z1 (pv 0) (pv 1) rfl)) Qr)),?_⟩
 try dsimp only [Qn,Cx.nox]
 have U:=D.hx;refine⟨_,rfl,x,C,dx,_,_,rfl,U,T.cl,T.nF,rfl,_,rfl,?_⟩;have G:=D.fault (fv':=.ref J) (.inr ⟨J,sp,y,L,rfl,Y,hL⟩);rcases id D.fo with rfl | ⟨aa,ab,y',L',rfl,h1,h2⟩
 .refine UC rfl ⟨_,rfl,_,rfl,x,C,dx,_,rfl,U,T.cl,T.nF,(by show 5<1000;decide),?_⟩;rw [Wp];exact Z _ _ G.2 G.1 (44:)
 .refine Jy (44:) ⟨_,rfl,J,sp,y,L,rfl,Y,hL,_,rfl,x,C,dx,_,_,rfl,U,T.cl,T.nF,rfl,aa,ab,y',L',rfl,h1,h2,_,_,rfl,rfl,_,rfl,WE (λ_=>?_) (λ_=>?_)⟩
  .refine⟨_,rfl,_,rfl,x,C,dx,_,rfl,U,T.cl,T.nF,(by show 5<1000;decide),?_⟩;rw [Wp];exact Z _ _ G.2 G.1 (44:)
  .exact Z H _ (SameD.refl _ _ _ _) D (44:)
theorem Am:FnScope ["self","demand","step"] ["self","demand","step"] (defScope sMD):=(0:)
theorem To(F:Fun K "meet_demand" "Demands.meet_demand" sMD f fd)(T:DmT K mg C):FnOk P w K mg base CX0 2 f fd ["self","demand","step"] (R6 K C):=by
 refine F.ok Am (11:) (λap A outer s H vs Q E hr h=>?_)
 .obtain⟨nm,ks,x,dx,tu,kb,st,wt,Y,G,fv,ds,d,rfl,_⟩:=h
  rfl
 obtain⟨nm,ks,x,dx,tu,kb,st,wt,Y,G,fv,ds,d,rfl,D,ab,af,hd,aq,hQ⟩:=h;refine⟨_,(Qi (QM (Xf (J1 (Z8 hr) (pv 1) (Q5 (pv 0) rfl))) (Qh (Gu (Z8 hr) (Q5 (pv 0) rfl) (pv 1) (pv 2) rfl)
  (Qi (QL (U1 PySem.F.plainAttrs_list PySem.F.slot_list_append PySem.F.type_list_append ZG (Q5 (pv 0) rfl) (Qa (pv 1) Qe))))) Qr)),?_⟩
 try dsimp only [Qn,Cx.nox]
 have Z:=D.hx;obtain⟨kvs,a1,a2,a3⟩:=id D.hst;obtain⟨ws,b1,b2,b3⟩:=id D.hwt;have ao:=JW D.nd D.dk;have ar:kvs.length=ds.length:=by rw [<-a1,List.length_map]
 have as:ws.length=ds.length:=by rw [<-b1,List.length_map]
 have aa:H Y=some (.tup (([Sum.inl d.1,Sum.inr d.2]:List Key).map kV)):=ab;have ev:=Vd d kvs;refine⟨_,rfl,_,rfl,x,C,dx,_,_,rfl,Z,T.cl,T.nS,rfl,st,_,rfl,DGet.t a2 aa,?_⟩;rw [ev];cases ef:kvs.find? λq=>decide (q.1=d)with
 | some q=>
  have ag:d∈ds:=by
   rw [<-a1];refine List.mem_map.mpr ⟨q,List.mem_of_find?_eq_some ef,?_⟩
   simpa using List.find?_some ef
  refine⟨_,rfl,Zn ?_⟩;refine hQ H (SameD.refl _ _ _ _) ?_;rw [show YO ds d=ds from if_pos ag];exact D
 | none=>
  have ah:d∉ds:=λz=>by
   rw [<-a1]at z;obtain⟨q,hq,e⟩:=List.mem_map.mp z;have:=List.find?_eq_none.mp ef q hq;simp [e]at this
  have ai:Zx (kvs.map λq=>(37:)) [Sum.inl d.1,Sum.inr d.2]=none:=by rw [ev,ef];rfl
  have J:=DPut.t (v:=G) a2 aa (by rw [List.length_map,QT];lia);rw [Wl G ai]at J;have aj:kvs.map (λq=>(37:))++[([Sum.inl d.1,Sum.inr d.2],G)]=(kvs++[(d,G)]).map λq=>(37:):=by rw [List.map_append];rfl
  rw [aj]at J;have ak:x≠st:=(ne_of Z a2 (10:));have ac:wt≠st:=(ne_of b2 a2 (10:));have al:wt≠x:=(ne_of b2 Z (10:));refine⟨_,rfl,Zk ⟨_,rfl,_,rfl,x,C,dx,_,_,rfl,Z,T.cl,T.nS,rfl,_,rfl,st,_,rfl,J,?_⟩⟩;generalize L:upd H st (.dT ((kvs++[(d,G)]).map λq=>(37:)))=H1;have ad:H1 x=some (.ins C dx (YE tu kb st wt fv)):=by rw [<-L,Qg ak];exact Z
  have ae:H1 wt=some (.lst (ws.map λq=>V.ref q.1)):=by rw [<-L,Qg ac];exact b2
  have am:H1 st=some (.dT ((kvs++[(d,G)]).map λq=>(37:))):=by rw [<-L];exact Qb
  have g1:SameD x st wt H H1:=λb u _ n _ e=>by rw [<-L,Qg n];exact e
  refine⟨_,rfl,x,C,dx,_,_,rfl,ad,T.cl,T.nW,rfl,.inl ⟨rfl,_,SqL.of ae⟩,_,rfl,wt,_,_,rfl,rfl,ae,(by rw [List.length_map,QT];lia),?_⟩;have U:SameD x st wt H (upd H1 wt (.lst (ws.map (λq=>V.ref q.1)++[.ref Y]))):=λb u n1 n2 n3 e=>by rw [Qg n3];exact g1 b u n1 n2 n3 e
  refine hQ _ U ?_;have an:YO ds d=ds++[d]:=if_neg ah;have nd:=Va (d:=d) D.nd;rw [an]at nd ⊢;refine⟨by rw [Qg (Ne.symm al)];exact ad,⟨kvs++[(d,G)],by rw [List.map_append,a1];rfl,by rw [Qg (Ne.symm ac)];exact am,λq hq=>?_⟩,⟨ws++[(Y,d)],by rw [List.map_append,b1];rfl,by rw [Qb,List.map_append];rfl,λq hq=>?_⟩,nd,λe he=>?_,D.fo.mono λ_ _=>D.seqT U⟩
  .rcases List.mem_append.mp hq with z | z
   .exact(a3 q z).mono λ_ _=>D.seqT U
   .have:q=(d,G):=by simpa using z
    rw [this];exact af.mono λ_ _=>D.seqT U
  .rcases List.mem_append.mp hq with z | z
   .exact D.tup U (b3 q z)
   .have:q=(Y,d):=by simpa using z
    rw [this];exact D.tup U ab
  .rcases List.mem_append.mp he with z | z
   .exact D.dk e z
   .have:e=d:=by simpa using z
    rw [this];exact hd
end
end K65
namespace K65
open PySem L2 TM TT K9 K11
def Yu(K:Fg)(C:Addr)(n:Nat):Sp:=λvs H Q _=>∃(nm:Nat)(ks:List KdT)(x dx tu kb st wt sp pl:Addr)(fv v:V)(kind:Str)(p:List Int)(t:Tm)(L:Int)(ds:List Dd),vs=[.ref x,.ref sp,.ref pl,v,.str kind]/\DmS K C nm ks H x dx tu kb st wt fv ds/\KbAt K H kb ks/\WG ks/\LvAt K H sp L/\SqT K H pl (p.map V.int)/\p.length+n<=100/\TmV K H v t/\TmB nm n t/\(∃k∈ks,k.2.1=kind)/\nm*ks.length<=1000/\
 ∀(H':Hp)(fv':V),SameD x st wt H H'->DmS K C nm ks H' x dx tu kb st wt fv' (YC ds (dmd (Qv ks) n t kind))->(fv'=.non↔fv=.non/\okk (Qv ks) n t kind)->Q .non H'
section
variable{P:Program}{w:World}{K:Fg}{mg:Str->Option Value}{base:Heap}{f:Addr}{fd:FuncData}{C:Addr}
theorem Xg:FnScope ["self","spot","place","term","kind","kinds","number","part"] ["self","spot","place","term","kind"] (defScope JZ):=(0:)
theorem OZ{n:Nat}(F:Fun K "look" "Demands.look" JZ f fd)(G:Gm mg)(T:DmT K mg C)(RC:Fn P w K mg base 1 "is_call" ["term"] (ZF K)){fM:Addr}{fdM:FuncData}(mM:Meth K C "meet_fault" fM)(FM:FnOk P w K mg base CX0 2 fM fdM ["self","fault"] (On K C))(bM:Binds K fdM ["self","fault"] [])
 {fD:Addr} {fdD:FuncData} (mD:Meth K C "meet_demand" fD) (FD:FnOk P w K mg base CX0 2 fD fdD ["self","demand","step"] (R6 K C)) (bD:Binds K fdD ["self","demand","step"] [])
 (mL:Meth K C "look" f) (FL:FnOk P w K mg base CX0 (n+2) f fd ["self","spot","place","term","kind"] (Yu K C n)) (bL:Binds K fd ["self","spot","place","term","kind"] []):FnOk P w K mg base CX0 (n+3) f fd ["self","spot","place","term","kind"] (Yu K C (n+1)):=by
 refine F.ok Xg (11:) (λbn A outer s H vs Q E hr h=>?_)
 .obtain⟨nm,ks,x,dx,tu,kb,st,wt,sp,pl,fv,v,J,p,t,L,ds,rfl,_⟩:=h
  rfl
 obtain⟨nm,ks,x,dx,tu,kb,st,wt,sp,pl,fv,v,J,p,t,L,ds,rfl,D,ak,al,hL,ay,bo,hv,hB,ag,am,hQ⟩:=h;have an:Room 2 _:=hr.mono (6:);have az:Room (n+2) _:=hr;refine⟨_,(Qh (QM (QS (QF RC hr (Qa (pv 3) Qe) (6:))) (Qh (QL (Yd (pv 0) T.cl mD FD an bD .nil Yq (Qa ((Qx (Qa (93:) (Qa (pv 4) Qe)))) (Qa ((Qx (Qa (pv 1) (Qa (pv 2) (Qa (93:) Qe))))) Qe))))
  (Qi (Gw))) Qr)
  (Qh (Qz (i:=5) Xg.nd rfl (32:) (MS (Z8 hr) (YM (Z8 hr) (Q5 (pv 0) rfl) (pv 4) (26:)) (93:) ⟨rfl,rfl,rfl,rfl⟩))
  (Qh (QM (PW.pt (pw_or (Xf (ND (pv 5))) (pw_or1 (QC WP (Qq Qs rfl G.len PySem.boot_len (Qa (pv 5) Qe)) (Qq Qs rfl G.len PySem.boot_len (Qa (93:) Qe)) (QK _))))) (Qh (QL (Yd (pv 0) T.cl mM FM an bM .nil Yq (Qa ((Qx (Qa (pv 1) (Qa (pv 2) Qe)))) Qe)))
  (Qi (Gw))) Qr)
  (Qi (QX PassesOwn.never rfl (Ob rfl G.enu (Qa (93:) Qe)) (ZA rfl (QA (Qw (i:=6) Xg.nd rfl (32:)) (QA (Qw (i:=7) Xg.nd rfl (32:)) Zh)))
   (Qi (QL (Yd (pv 0) T.cl mL FL az bL .nil Yq (Qa (pv 1) (Qa (Qy Gz (pv 2) (Qx (Qa (pv 6) Qe))) (Qa (pv 7) (Qa (Qk Qj (pv 5) (pv 6) (26:)) Qe)))))))))))),?_⟩
 try dsimp only [Qn,Cx.nox]
 have hx:=D.hx;obtain⟨ao,bp,a0⟩:=hB;rcases Zv hv with⟨a,mo,b,rfl,rfl,h1⟩ | ⟨a,b,bs,ah,k',a1,rfl,et,h1,h2,h3,h4⟩
 .refine⟨_,rfl,a,Yn,_,rfl,h1,_,rfl,UC rfl ?_⟩;refine⟨_,rfl,x,dx,_,rfl,hx,rfl,_,rfl,a,_,1,_,rfl,rfl,h1,rfl,_,rfl,(30:),λdp a3=>?_⟩;have g1:=Qc a3 (.tup [.int mo,.str J]);refine⟨_,rfl,_,rfl,_,rfl,a,_,2,_,rfl,rfl,g1.seqT h1,rfl,(98:),λsa a4=>?_⟩;have g2:=Qc a4 (.tup [.ref sp,.ref pl,.int b]);have ai:=g1.trans g2;obtain⟨n0,vd,a5,kk,bq,br,l1,_,_,_⟩:=id hL;refine⟨nm,ks,x,dx,tu,kb,st,wt,dp,.ref sa,fv,ds,(mo,J),rfl,D.same ai,g2 _ _ Qb,⟨sa,sp,.ref pl,.int b,n0,vd,a5,rfl,SqT.of Qb,ai.seqT l1⟩,⟨(ao mo b rfl).1,(ao mo b rfl).2,ag⟩,am,λH' g D'=>?_⟩;refine hQ H' fv ((SameD.of ai).trans g) ?_ ⟨λz=>⟨z,trivial⟩,λz=>z.1⟩;exact D'
 have ab:lab t=.put ah k' a1:=by rw [et];rfl
 refine(85:);have aw:=h3.length;obtain⟨d,o,hd,a6,a7,ac⟩:=ak.get ag ah;refine⟨_,rfl,x,C,dx,_,_,rfl,hx,T.cl,T.nK,rfl,_,rfl,kb,.ref d,rfl,hd,d,rfl,a6,_,rfl,a,_,1,_,rfl,rfl,h1,rfl,o,a7,?_⟩;have fault:dmd (Qv ks) (n+1) t J=[]->¬okk (Qv ks) (n+1) t J->∀Z,H Z=none->On K C (.ref x::([.ref Z]++[])) (upd H Z (.tup [.ref sp,.ref pl])) (λ_ H'=>Q .non H') E0:=λae af Z aa=>by
  have g:=Qc aa (.tup [.ref sp,.ref pl]);refine⟨nm,ks,x,dx,tu,kb,st,wt,sp,Z,.ref pl,fv,ds,L,rfl,D.same g,SqT.of Qb,hL.mono λ_ _=>g.seqT,λH' Y gx D' hf=>?_⟩;refine hQ H' Y ((SameD.of g).trans gx) ?_ ⟨λz=>absurd z hf,λz=>absurd z.2 af⟩;rw [ae];exact D'
 cases er:Qv ks J ah with
 | none=>
  rw [er]at ac;have ae:dmd (Qv ks) (n+1) t J=[]:=by rw [dmd,ab];dsimp only;rw [er]
  have af:¬okk (Qv ks) (n+1) t J:=λz=>by
   rw [okk,ab]at z;obtain⟨U,g1,_⟩:=z;rw [er]at g1;cases g1
  rw [show o.getD .non=.non from ac];exact⟨_,rfl,_,rfl,UC rfl ⟨_,rfl,x,dx,_,rfl,hx,rfl,_,rfl,_,rfl,(30:),λZ aa=>fault ae af Z aa⟩⟩
 | some U=>
  rw [er]at ac;obtain⟨kk,a8,ap⟩:=ac;rw [a8];refine⟨_,rfl,_,rfl,Jy (44:) ⟨_,rfl,kk,_,rfl,.inr ap,_,rfl,a,_,4,_,rfl,rfl,h1,rfl,b,_,rfl,.inr h2,rfl,_,rfl,?_⟩⟩
  by_cases hl:U.length=t.bs.length
  .refine Mm (by rw [List.length_map,hl,aw]) ?_;have a9:dmd (Qv ks) (n+1) t J=(t.bs.zip U).flatMap λp=>dmd (Qv ks) n p.1 p.2:=by rw [dmd,ab];dsimp only;rw [er];dsimp only;rw [if_pos hl]
   have ba:okk (Qv ks) (n+1) t J↔ ∀p∈t.bs.zip U,okk (Qv ks) n p.1 p.2:=by
    rw [okk,ab];dsimp only;rw [er];exact⟨λ⟨bb,e1,e2,e3⟩=>by obtain rfl:=Option.some.inj e1;exact e3,λz=>⟨U,rfl,hl,z⟩⟩
   rw [a9]at hQ;refine⟨_,rfl,a,_,4,_,rfl,rfl,h1,rfl,b,bs,rfl,h2,?_⟩;refine MC (K:=K) (xs:=bs) (λi σ H'=>∃(c6 c7:Option V)(Y:V),σ=[some (.ref x),some (.ref sp),some (.ref pl),some (.ref a),some (.str J),some (.ref kk),c6,c7]/\SameD x st wt H H'/\DmS K C nm ks H' x dx tu kb st wt Y (YC ds (((t.bs.zip U).take i).flatMap λp=>dmd (Qv ks) n p.1 p.2))/\
    (Y=.non↔fv=.non/\∀p∈(t.bs.zip U).take i,okk (Qv ks) n p.1 p.2))
    ⟨none,none,fv,rfl,SameD.refl _ _ _ _,D,⟨λz=>⟨z,λp hp=>by simp at hp⟩,λz=>z.1⟩⟩ ?_ ?_ ?_
   .rintro i σ H' _ ⟨c6,c7,Y,_,g,_⟩;exact D.seqT g h2
   .rintro i u Z σ H' hu aa ⟨c6,c7,Y,rfl,g,D',ad⟩;have bt:i<bs.length:=(List.getElem?_eq_some_iff.mp hu).1;have aq:i<t.bs.length:=by lia
    have ar:i<U.length:=by lia
    obtain⟨cv,bc,bd⟩:=h3.get (List.getElem?_eq_getElem aq);obtain rfl:cv=u:=Option.some.inj (bc.symm.trans hu);have ez:(t.bs.zip U)[i]?=some (t.bs[i],U[i]):=by
     rw [List.getElem?_eq_getElem (by rw [List.length_zip];lia),List.getElem_zip]
    have gp:=Qc aa (.tup [.int (i:Int),cv]);have g1:=g.trans (SameD.of gp);have be:=gp _ _ D'.hx;refine⟨Z,_,rfl,SqT.of Qb,rfl,_,_,rfl,_,_,rfl,rfl,?_⟩;refine⟨_,rfl,x,dx,_,rfl,be,rfl,_,rfl,_,rfl,_,rfl,(76:),λp1 bf=>?_⟩;have as:=Qc bf (.tup [.int (i:Int)]);have g2:=g1.trans (SameD.of as);refine⟨pl,p1,p.map V.int,[.int (i:Int)],rfl,rfl,D.seqT g2 ay,SqT.of Qb,(by rw [List.length_map,QT];simp only [List.length_singleton];lia),λp2 H3 au av=>?_⟩;have ax:p.map V.int++[V.int (i:Int)]=(p++[(i:Int)]).map V.int:=by rw [List.map_append];rfl
    rw [ax]at av;have g3:=g2.trans (SameD.of au);have bg:=gp.trans (as.trans au);refine⟨_,rfl,_,rfl,_,rfl,kk,_,_,.str U[i],rfl,rfl,D.seqT g3 ap,Qo (by rw [List.getElem?_map,List.getElem?_eq_getElem ar];rfl),?_⟩;refine⟨nm,ks,x,dx,tu,kb,st,wt,sp,p2,Y,cv,U[i],p++[(i:Int)],t.bs[i],L,_,rfl,D'.same bg,D.kbAt g3 ak,al,hL.mono λ_ _=>D.seqT g3,av,by rw [List.length_append,List.length_singleton];lia,bd.mono λ_ _=>D.seqT g3,a0 _ (List.getElem_mem aq),Nz al er (List.getElem_mem ar),am,λH4 bi g4 D4 aj=>?_⟩;refine⟨_,_,bi,rfl,g3.trans g4,?_,?_⟩
    .rw [List.take_add_one,ez,List.flatMap_append,Wn]
     simpa using D4
    .rw [List.take_add_one,ez,aj,ad,and_assoc];refine and_congr_right λ_=>⟨λ⟨e1,e2⟩ q hq=>?_,λz=>⟨λq hq=>z q (List.mem_append_left _ hq),z (t.bs[i],U[i]) (List.mem_append_right _ (21:))⟩⟩;rcases List.mem_append.mp hq with z | z
     .exact e1 q z
     .have:q=(t.bs[i],U[i]):=by simpa using z
      rw [this];exact e2
   .rintro σ H' ⟨c6,c7,Y,rfl,g,D',ad⟩;have bj:(t.bs.zip U).take bs.length=t.bs.zip U:=List.take_of_length_le (by rw [List.length_zip];lia);rw [bj]at D' ad;exact hQ H' Y g D' (ad.trans (and_congr_right λ_=>ba.symm))
  .have ae:dmd (Qv ks) (n+1) t J=[]:=by rw [dmd,ab];dsimp only;rw [er];dsimp only;rw [if_neg hl]
   have af:¬okk (Qv ks) (n+1) t J:=λz=>by
    rw [okk,ab]at z;obtain⟨bb,g1,g2,_⟩:=z;rw [er]at g1;obtain rfl:=Option.some.inj g1;exact hl g2
   have e2:(!decide (V.int (((U.map V.str).length:Nat):Int)=V.int ((bs.length:Nat):Int)))=true:=by
    rw [List.length_map,decide_eq_false]
    .rfl
    .intro z;injection z with z;lia
   rw [e2];exact Zk ⟨_,rfl,x,dx,_,rfl,hx,rfl,_,rfl,_,rfl,(30:),λZ aa=>fault ae af Z aa⟩
theorem Ld{k:Nat}:FnOk P w K mg base CX0 k f fd ["self","spot","place","term","kind"] (Yu K C 0):=by
 have G:∀vs H Q E,¬Yu K C 0 vs H Q E:=λvs H Q E h=>by
  obtain⟨nm,ks,x,dx,tu,kb,st,wt,sp,pl,fv,v,J,p,t,L,ds,_,_,_,_,_,_,_,_,U,_⟩:=h;exact U
 exact⟨λvs H Q E h=>absurd h (G vs H Q E),λA outer s H Y Z vs Q E _ _ _ _ h=>absurd h (G vs H Q E)⟩
theorem WS(F:Fun K "look" "Demands.look" JZ f fd)(G:Gm mg)(T:DmT K mg C)(RC:Fn P w K mg base 1 "is_call" ["term"] (ZF K)){fM:Addr}{fdM:FuncData}(mM:Meth K C "meet_fault" fM)(FM:FnOk P w K mg base CX0 2 fM fdM ["self","fault"] (On K C))(bM:Binds K fdM ["self","fault"] [])
 {fD:Addr} {fdD:FuncData} (mD:Meth K C "meet_demand" fD) (FD:FnOk P w K mg base CX0 2 fD fdD ["self","demand","step"] (R6 K C)) (bD:Binds K fdD ["self","demand","step"] [])
 (mL:Meth K C "look" f) (bL:Binds K fd ["self","spot","place","term","kind"] []):∀n:Nat,FnOk P w K mg base CX0 (n+2) f fd ["self","spot","place","term","kind"] (Yu K C n)
 | 0=>Ld
 | n+1=>OZ F G T RC mM FM bM mD FD bD mL (WS F G T RC mM FM bM mD FD bD mL bL n) bL
end
end K65
namespace K65
open PySem L2 TM TT K9 K11
def fl1(tu:Addr):List (Str×V):=[("turning",.ref tu)]
def fl2(tu kb:Addr):List (Str×V):=[("turning",.ref tu),("kinds_below",.ref kb)]
def fl3(tu kb st:Addr):List (Str×V):=[("turning",.ref tu),("kinds_below",.ref kb),("steps",.ref st)]
def fl4(tu kb st wt:Addr):List (Str×V):=[("turning",.ref tu),("kinds_below",.ref kb),("steps",.ref st),("waiting",.ref wt)]
theorem f1(tu:Addr):Q6 "turning" (.ref tu) []=fl1 tu:=rfl
theorem f2(tu kb:Addr):Q6 "kinds_below" (.ref kb) (fl1 tu)=fl2 tu kb:=by
 unfold fl1;rw [QU (1:)];rfl
theorem f3(tu kb st:Addr):Q6 "steps" (.ref st) (fl2 tu kb)=fl3 tu kb st:=by
 unfold fl2;rw [QU (1:),QU (1:)];rfl
theorem f4(tu kb st wt:Addr):Q6 "waiting" (.ref wt) (fl3 tu kb st)=fl4 tu kb st wt:=by
 unfold fl3;rw [QU (1:),QU (1:),QU (1:)];rfl
theorem f5(tu kb st wt:Addr):Q6 "fault" .non (fl4 tu kb st wt)=YE tu kb st wt .non:=by
 unfold fl4;rw [QU (1:),QU (1:),QU (1:),QU (1:)];rfl
abbrev LX(K:Fg):List V->Hp->VK->Prop:=λxs H Q=>∃(l:Addr)(ts:List (Addr×Str×V)),xs=[.ref l]/\SqL K H l (67:)/\(∀t∈ts,SqT K H t.1 [.str t.2.1,t.2.2])/\(ts.map λt=>t.2.1).Nodup/\ts.length<=1000/\
 ∀d,H d=none->Q (.ref d) (upd H d (.dK (ts.map λt=>(57:))))
theorem WoodAt.insX{K:Fg}{H H':Hp}{x wd:Addr}{ks:List KdT}(i:InsAt H x)(g:SameX x H H')(h:WoodAt K H wd ks):WoodAt K H' wd ks:=
 ⟨i.seq g h.1,λk G=>⟨i.seqT g (h.2 k G).1,i.seq g (h.2 k G).2.1,λt J=>⟨i.seqT g ((h.2 k G).2.2 t J).1,i.seqT g ((h.2 k G).2.2 t J).2⟩⟩⟩
abbrev MoT:=Addr×Str×Addr×List V×List Tm
def SN(K:Fg)(H:Hp)(m:MoT):Prop:=SqT K H m.1 [.str m.2.1,.ref m.2.2.1]/\SqL K H m.2.2.1 m.2.2.2.1/\TmAll K H m.2.2.2.1 m.2.2.2.2
structure TuAt(K:Fg)(H:Hp)(tu wd:Addr)(sv:V)(lm:Addr)(ks:List KdT)(t0:Tm)(ms:List MoT):Prop where
 tu:SqT K H tu [.ref wd,sv,.ref lm]
 wd:WoodAt K H wd ks
 st:TmV K H sv t0
 lm:SqL K H lm (ms.map λm=>V.ref m.1)
 mo:∀m∈ms,SN K H m
theorem TuAt.insX{K:Fg}{H H':Hp}{x tu wd lm:Addr}{sv:V}{ks:List KdT}{t0:Tm}{ms:List MoT}(i:InsAt H x)(g:SameX x H H')(h:TuAt K H tu wd sv lm ks t0 ms):TuAt K H' tu wd sv lm ks t0 ms:=
 ⟨i.seqT g h.tu,WoodAt.insX i g h.wd,h.st.mono λ_ _=>i.seqT g,i.seq g h.lm,λm G=>⟨i.seqT g (h.mo m G).1,i.seq g (h.mo m G).2.1,(h.mo m G).2.2.mono λ_ _=>i.seqT g⟩⟩
theorem TuAt.same{K:Fg}{H H':Hp}{tu wd lm:Addr}{sv:V}{ks:List KdT}{t0:Tm}{ms:List MoT}(g:Same H H')(h:TuAt K H tu wd sv lm ks t0 ms):TuAt K H' tu wd sv lm ks t0 ms:=
 ⟨g.seqT h.tu,h.wd.same g,h.st.mono λ_ _=>g.seqT,g.seq h.lm,λm G=>⟨g.seqT (h.mo m G).1,g.seq (h.mo m G).2.1,(h.mo m G).2.2.mono λ_ _=>g.seqT⟩⟩
structure TuOk(ks:List KdT)(nm n:Nat)(t0:Tm)(ms:List MoT):Prop where
 wo:WoodOk ks
 cn:ms.length=nm
 st:TmB nm n t0
 kd:∀m∈ms,∃k∈ks,k.2.1=m.2.1
 ru:∀m∈ms,(rowsK ks m.2.1).length=m.2.2.2.2.length
 tb:∀m∈ms,∀t∈m.2.2.2.2,TmB nm n t
theorem Yg{ks:List KdT}{kind:Str}(h:∃k∈ks,k.2.1=kind):∃k,ks.find? (75:)=some k/\rowsK ks kind=k.2.2.2/\k∈ks:=by
 cases e:ks.find? λk=>decide (k.2.1=kind)with
 | none=>
  obtain⟨k,G,J⟩:=h;have:=List.find?_eq_none.mp e k G;simp [J]at this
 | some k=>exact⟨k,rfl,by unfold rowsK;rw [e];rfl,List.mem_of_find?_eq_some e⟩
def Yh(ms:List MoT)(i:Int):List Tm:=((ms[i.toNat]?).map λm=>m.2.2.2.2).getD []
def dR(f:RK)(n:Nat)(ms:List MoT)(d:Dd):List Dd:=(Yh ms d.1).flatMap λt=>dmd f n t d.2
def okR(f:RK)(n:Nat)(ms:List MoT)(d:Dd):Prop:=∀t∈Yh ms d.1,okk f n t d.2
structure Dem(f:RK)(n:Nat)(t0:Tm)(k0:Str)(ms:List MoT)(ds:List Dd):Prop where
 st:∀e∈dmd f n t0 k0,e∈ds
 go:∀d∈ds,∀e∈dR f n ms d,e∈ds
 lt:∀S:Dd->Prop,(∀e∈dmd f n t0 k0,S e)->(∀d,S d->∀e∈dR f n ms d,S e)->∀e∈ds,S e
def Tn(K:Fg)(C:Addr)(n:Nat):Sp:=λvs H Q _=>∃(nm:Nat)(ks ks1:List KdT)(x dx tu kb st wt dp wd lm:Addr)(sv fv:V)(t0:Tm)(ms:List MoT)(ds:List Dd)(d:Dd),vs=[.ref x,.ref dp]/\DmS K C nm ks H x dx tu kb st wt fv ds/\KbAt K H kb ks/\WG ks/\H dp=some (.tup [.int d.1,.str d.2])/\d∈ds/\nm*ks.length<=1000/\n<=100/\TuOk ks1 nm n t0 ms/\(∀H',SameD x st wt H H'->TuAt K H' tu wd sv lm ks1 t0 ms)/\
 ∀(H':Hp)(fv':V),SameD x st wt H H'->DmS K C nm ks H' x dx tu kb st wt fv' (YC ds (dR (Qv ks) n ms d))->(fv'=.non↔fv=.non/\okR (Qv ks) n ms d)->Q .non H'
def MJ(K:Fg)(C:Addr)(n:Nat):Sp:=λvs H Q _=>∃(nm:Nat)(x dx tu wd lm wo:Addr)(sv:V)(ks1 ks:List KdT)(k01 k00:KdT)(t0:Tm)(ms:List MoT),vs=[.ref x,.ref tu,.ref wo]/\H x=some (.ins C dx [])/\TuAt K H tu wd sv lm ks1 t0 ms/\TuOk ks1 nm n t0 ms/\ks1[0]?=some k01/\WoodAt K H wo ks/\WG ks/\ks[0]?=some k00/\nm*ks.length<=1000/\n<=100/\
 ∀(H':Hp)(kb st wt:Addr)(fv:V)(ds:List Dd),SameX x H H'->H' x=some (.ins C dx (YE tu kb st wt fv))->Dem (Qv ks) n t0 k00.2.1 ms ds->(fv=.non↔okk (Qv ks) n t0 k00.2.1/\∀d∈ds,okR (Qv ks) n ms d)->Q .non H'
section
variable{P:Program}{w:World}{K:Fg}{mg:Str->Option Value}{base:Heap}{f:Addr}{fd:FuncData}{C:Addr}
theorem Mw:FnScope ["self","demand","names","mode","row","rule"] ["self","demand"] (defScope YY):=(0:)
theorem Tc{n:Nat}(F:Fun K "look_by" "Demands.look_by" YY f fd)(G:Gm mg)(T:DmT K mg C)(RO:Fn P w K mg base 1 "rows_of" ["wood","kind"] (Z5 K)){fL:Addr}{fdL:FuncData}(mL:Meth K C "look" fL)(FL:FnOk P w K mg base CX0 (n+2) fL fdL ["self","spot","place","term","kind"] (Yu K C n))(bL:Binds K fdL ["self","spot","place","term","kind"] []):
 FnOk P w K mg base CX0 (n+3) f fd ["self","demand"] (Tn K C n):=by
 refine F.ok Mw (11:) (λbd A outer s H vs Q E hr h=>?_)
 .obtain⟨nm,ks,ks1,x,dx,tu,kb,st,wt,dp,wd,lm,sv,fv,t0,ms,ds,d,rfl,_⟩:=h
  rfl
 obtain⟨nm,ks,ks1,x,dx,tu,kb,st,wt,dp,wd,lm,sv,fv,t0,ms,ds,d,rfl,D,ap,aq,ab,hd,ar,hn,hO,hT,hQ⟩:=h;have as:Room (n+2) _:=hr;refine⟨_,(Qh (Qz (i:=2) Mw.nd rfl (32:) (Qy Za (Qk Qj (Qk Qj (YM (Z8 hr) (Q5 (pv 0) rfl) (pv 1) (26:)) Qf (26:)) Qf (26:)) Qf))
  (Qh (Qz (i:=3) Mw.nd rfl (32:) (Qk QP (Qk Qj (Q5 (pv 0) rfl) Qf (26:)) (20:) (26:)))
  (Qi (QX PassesOwn.never rfl (VG rfl G.zip (Qa (QF RO hr (Qa (Qk Qj (Q5 (pv 0) rfl) Qf (26:)) (Qa (93:) Qe)) (6:)) (Qa (93:) Qe))) (ZA rfl (QA (Qw (i:=4) Mw.nd rfl (32:)) (QA (Qw (i:=5) Mw.nd rfl (32:)) Zh)))
   (Qi (QL (Yd (pv 0) T.cl mL FL as bL .nil Yq (Qa ((Qx (Qa (pv 2) (Qa (pv 1) (Qa (pv 4) Qe))))) (Qa (Qx Qe) (Qa (pv 5) (Qa (20:) Qe))))))))))),?_⟩
 try dsimp only [Qn,Cx.nox]
 have hx:=D.hx;obtain⟨kvs,a1,a2,a3⟩:=id D.hst;have an:H dp=some (.tup (([Sum.inl d.1,Sum.inr d.2]:List Key).map kV)):=ab;have ev:=Vd d kvs;have ac:=D.dk d hd;cases ef:kvs.find? λq=>decide (q.1=d)with
 | none=>
  rw [<-a1]at hd;obtain⟨q,hq,e⟩:=List.mem_map.mp hd;have:=List.find?_eq_none.mp ef q hq;simp [e]at this
 | some q=>
  obtain⟨sa,au,y0,z0,n0,be,bc,av,s1,s2⟩:=a3 q (List.mem_of_find?_eq_some ef);rw [ef]at ev;have ad:=DGet.t a2 an;rw [ev,show(some q).map (·.2)=some q.2 from rfl,av]at ad;have Z:=hT H (SameD.refl _ _ _ _);refine⟨_,rfl,x,C,dx,_,_,rfl,hx,T.cl,T.nS,rfl,_,rfl,st,_,rfl,ad,sa,_,0,_,rfl,rfl,s1,rfl,au,_,0,_,rfl,rfl,s2,rfl,_,_,rfl,rfl,?_⟩;obtain⟨i,hi⟩: ∃i:Nat,d.1=(i:Int):=⟨d.1.toNat,(Int.toNat_of_nonneg ac.1).symm⟩;have ae:i<ms.length:=by have:=ac.2.1;rw [hO.cn];lia
  have J:=List.getElem_mem ae;have em:Yh ms d.1=ms[i].2.2.2.2:=by unfold Yh;rw [hi,Int.toNat_natCast,List.getElem?_eq_getElem ae];rfl
  have aw:atI (ms.map λm=>V.ref m.1) d.1=some (.ref ms[i].1):=by rw [hi];exact Qo (by rw [List.getElem?_map,List.getElem?_eq_getElem ae];rfl)
  refine⟨_,rfl,x,C,dx,_,_,rfl,hx,T.cl,T.nT,rfl,tu,_,2,_,rfl,rfl,Z.tu,rfl,_,rfl,dp,_,0,_,rfl,rfl,SqT.of ab,rfl,lm,_,_,_,rfl,rfl,Z.lm,aw,?_⟩;obtain⟨m1,m2,m3⟩:=Z.mo _ J;obtain⟨L,ax,ao,af⟩:=Yg (hO.kd _ J);have ag:=hO.ru _ J;rw [ao]at ag;refine⟨_,rfl,x,C,dx,_,_,rfl,hx,T.cl,T.nT,rfl,tu,_,0,_,rfl,rfl,Z.tu,rfl,_,rfl,_,_,0,_,rfl,rfl,m1,rfl,wd,_,ks1,L,rfl,Z.wd,hO.wo,ax,λH1 g1=>?_⟩;have ai:=hT H1 (SameD.of g1);obtain⟨ay,az,a0⟩:=ai.mo _ J;have a4:=a0.length;have a5:(L.2.2.2.map λt=>V.ref t.1).length=ms[i].2.2.2.1.length:=by rw [List.length_map,ag,a4]
  refine⟨_,rfl,_,_,1,_,rfl,rfl,ay,rfl,L.2.2.1,ms[i].2.2.1,_,_,rfl,(ai.wd.2 L af).2.1,az,?_⟩;rw [okR,em]at hQ;rw [dR,em]at hQ;refine Xo (K:=K) (xs:=L.2.2.2.map λt=>V.ref t.1) (ys:=ms[i].2.2.2.1) a5 (λj σ H'=>∃(c4 c5:Option V)(U:V),σ=[some (.ref x),some (.ref dp),some (.int (n0+1)),some (.ref ms[i].1),c4,c5]/\SameD x st wt H H'/\DmS K C nm ks H' x dx tu kb st wt U (YC ds ((ms[i].2.2.2.2.take j).flatMap λt=>dmd (Qv ks) n t d.2))/\(U=.non↔fv=.non/\∀t∈ms[i].2.2.2.2.take j,okk (Qv ks) n t d.2))
   ⟨none,none,fv,rfl,SameD.of g1,D.same g1,⟨λz=>⟨z,λt ht=>by simp at ht⟩,λz=>z.1⟩⟩ ?_ ?_ ?_
  .rintro j σ H' _ ⟨c4,c5,U,_,g,_⟩;have aj:=hT H' g;exact⟨(aj.wd.2 L af).2.1,(aj.mo _ J).2.1⟩
  .rintro j u v p σ H' hu hv hp ⟨c4,c5,U,rfl,g,D',Y⟩;have hj:j<L.2.2.2.length:=by
    have:=(List.getElem?_eq_some_iff.mp hu).1
    rwa [List.length_map]at this
   have aa:j<ms[i].2.2.2.2.length:=by lia
   obtain rfl:u=.ref L.2.2.2[j].1:=by
    rw [List.getElem?_map,List.getElem?_eq_getElem hj]at hu;exact(Option.some.inj hu).symm
   have gp:=Qc hp (.tup [.ref L.2.2.2[j].1,v]);have bf:=g.trans (SameD.of gp);refine⟨p,_,rfl,SqT.of Qb,rfl,_,_,rfl,_,_,rfl,rfl,?_⟩;refine⟨_,rfl,x,dx,_,rfl,gp _ _ D'.hx,rfl,_,rfl,_,rfl,_,rfl,(98:),λsp a6=>⟨(99:),λpl a7=>?_⟩⟩;have a8:=Qc a6 (.tup [.int (n0+1),.ref dp,.ref L.2.2.2[j].1]);have ak:=Qc a7 (.tup []);have al:=gp.trans (a8.trans ak);have g3:=g.trans (SameD.of al);have am:=hT _ g3;obtain⟨r1,r2⟩:=(am.wd.2 L af).2.2 _ (List.getElem_mem hj);obtain⟨cv,a9,ba⟩:=(am.mo _ J).2.2.get (List.getElem?_eq_getElem aa);obtain rfl:cv=v:=Option.some.inj (a9.symm.trans hv);refine⟨_,rfl,_,rfl,dp,_,1,_,rfl,rfl,SqT.of (D.tup g3 ab),rfl,?_⟩;refine⟨nm,ks,x,dx,tu,kb,st,wt,sp,pl,U,cv,d.2,[],ms[i].2.2.2.2[j],_,_,rfl,D'.same al,D.kbAt g3 ap,aq,⟨n0+1,.ref dp,_,_,_,_,ak.seqT (SqT.of Qb),r1,r2,rfl⟩,SqT.of Qb,by simpa using hn,ba,hO.tb _ J _ (List.getElem_mem aa),ac.2.2,ar,λH4 bb g4 D4 ah=>?_⟩;refine⟨_,_,bb,rfl,g3.trans g4,?_,?_⟩
   .rw [List.take_add_one,List.getElem?_eq_getElem aa,List.flatMap_append,Wn]
    simpa using D4
   .rw [List.take_add_one,List.getElem?_eq_getElem aa,ah,Y,and_assoc];refine and_congr_right λ_=>⟨λ⟨e1,e2⟩ q hq=>?_,λz=>⟨λq hq=>z q (List.mem_append_left _ hq),z ms[i].2.2.2.2[j] (List.mem_append_right _ (21:))⟩⟩;rcases List.mem_append.mp hq with z | z
    .exact e1 q z
    .have:q=ms[i].2.2.2.2[j]:=by simpa using z
     rw [this];exact e2
  .rintro σ H' ⟨c4,c5,U,rfl,g,D',Y⟩;rw [List.length_map,ag,List.take_length]at D' Y;exact hQ H' U g D' Y
end
end K65
namespace L2
open PySem
theorem Gk{c:TT}{tb:TS}{D:Ends}{σ:St}{H:Hp}(J:Nat->St->Hp->Prop)(m0:Nat)(h0:J m0 σ H)
 (hs:∀m σ H,J m σ H->c σ H λb H1=>if b=true then tb { D with nx:=λσ' H'=>∃m',m'<m/\J m' σ' H',ct:=λσ' H'=>∃m',m'<m/\J m' σ' H',bk:=D.nx } σ H1 else D.nx σ H1)
 (mono:∀σ H (Q Q':Bool->Hp->Prop),(∀b H1,Q b H1->Q' b H1)->c σ H Q->c σ H Q'):MU c tb D σ H:=by
 refine⟨J,⟨m0,h0⟩,?_⟩;intro m σ H p;refine mono σ H _ _ (λb H1 q=>?_) (hs m σ H p);cases b with
 | true=>exact⟨_,λσ' H' ⟨m',l,G⟩=>⟨m',l,G⟩,q⟩
 | false=>exact q
end L2
namespace K65
open PySem L2 TM TT K9 K11
section
variable{P:Program}{w:World}{K:Fg}{mg:Str->Option Value}{base:Heap}{f:Addr}{fd:FuncData}{C:Addr}
theorem Vl:FnScope ["self","turning","wood","done"] ["self","turning","wood"] (defScope WL):=(0:)
theorem NL{n:Nat}(F:Fun K "__init__" "Demands.__init__" WL f fd)(G:Gm mg)(T:DmT K mg C)(RA:Fn P w K mg base 1 "row_above" ["wood"] (UN K)){fL:Addr}{fdL:FuncData}(mL:Meth K C "look" fL)(FL:FnOk P w K mg base CX0 (n+2) fL fdL ["self","spot","place","term","kind"] (Yu K C n))(bL:Binds K fdL ["self","spot","place","term","kind"] [])
 {fB:Addr} {fdB:FuncData} (mB:Meth K C "look_by" fB) (FB:FnOk P w K mg base CX0 (n+3) fB fdB ["self","demand"] (Tn K C n)) (bB:Binds K fdB ["self","demand"] []):
 FnOk P w K mg base CX0 (n+4) f fd ["self","turning","wood"] (MJ K C n):=by
 refine F.ok Vl (11:) (λdb A outer s H vs Q E hr h=>?_)
 .obtain⟨nm,x,dx,tu,wd,lm,wo,sv,ks1,ks,a9,U,t0,ms,rfl,_⟩:=h
  rfl
 obtain⟨nm,x,dx,tu,wd,lm,wo,sv,ks1,ks,a9,U,t0,ms,rfl,hx,al,hO,bx,ba,af,aj,bb,hn,hQ⟩:=h;have bc:Room (n+3) _:=hr;have ca:Room (n+2) _:=bc.mono (6:);have bd:=al.tu;have cb:=al.wd;have cc:=al.st;refine⟨_,(Qh (Z1 (pv 0) (pv 1) rfl)
  (Qh (Z1 (pv 0) (QI (Zp rfl) rfl G.dct PyProof.Rows.boot_dict (Qa (QH (29:) rfl (QG (pv 2)) (Gp (29:) rfl) (92:) (λ_ _ _ _=>(Qx (Qa (pv 0) (Qa (QI (r:=LX K) (Zp rfl) rfl G.dct PyProof.Rows.boot_dict (Qa (pv 1) Qe)) Qe))))) Qe)) rfl)
  (Qh (Z1 (pv 0) Wj rfl)
  (Qh (Z1 (pv 0) (Yt Qe) rfl)
  (Qh (Z1 (pv 0) Uk rfl)
  (Qh (QL (Yd (pv 0) T.cl mL FL ca bL .nil Yq (Qa ((Qx (Qa (Qf) (Qa (Uk) (Qa (QF RA hr (Qa (20:) Qe) (6:)) Qe))))) (Qa (Qx Qe) (Qa (20:) (Qa (Qk Qj (Qk QP (pv 2) Qf (26:)) Qf (26:)) Qe))))))
  (Qh (Qz (i:=3) Vl.nd rfl (32:) Qf)
  (Qi (U5 PassesOwn.never (QC WM (pv 3) (Qq Qs rfl G.len PySem.boot_len (Qa (Q5 (pv 0) rfl) Qe)) (QK _)) (Qh (QL (Yd (pv 0) T.cl mB FB bc bB .nil Yq (Qa (Qk QP (Q5 (pv 0) rfl) (pv 3) (26:)) Qe)))
  (Qi (Rb (i:=3) Vl.nd rfl (32:) Qf P6)))))))))))),?_⟩
 try dsimp only [Qn,Cx.nox]
 have i0:InsAt H x:=⟨_,_,_,hx⟩;refine⟨_,rfl,_,rfl,x,C,dx,_,rfl,hx,T.cl,T.nT,(by show 0<1000;decide),?_⟩;rw [f1];have g1:SameX x H (upd H x (.ins C dx (fl1 tu))):=SameX.upd;generalize ce:upd H x (.ins C dx (fl1 tu))=H1 at g1 ⊢;have cf:H1 x=some (.ins C dx (fl1 tu)):=by rw [<-ce];exact Qb
 have ac:=WoodAt.insX i0 g1 ba;have bz:=af.ok.nd;have dc:=af.ok.len;refine⟨_,rfl,wo,rfl,⟨_,ac.1⟩,λacc ar=>?_⟩;refine UG (K:=K) (xs:=ks.map λk=>V.ref k.1) (cs:=[]) (tt:=λ_ H Q=>Q true H) (te:=SH (Yp (UE 0) (Yp (tCB (LX K) (Yp (UE 1) GD)) GD))) (λi ys H'=>∃l:List (KdT×Addr×Addr),ys=l.map (λq=>V.ref q.2.1)/\l.map (·.1)=ks.take i/\(∀q∈l,SqT K H' q.2.1 [.str q.1.2.1,.ref q.2.2]/\H' q.2.2=some (.dK (q.1.2.2.2.map λr=>((Sum.inr r.2.1:Key),V.ref r.2.2.1))))/\H' acc=some (.lst ys)/\Same H1 H')
  ⟨[],rfl,rfl,λq hq=>(nomatch hq),Qb,Qc ar _⟩ ?_ ?_ ?_
 .rintro i ys H' _ ⟨l,_,_,_,_,g⟩;exact g.seq ac.1
 .rintro i y ys H' hi hy ⟨l,rfl,Y,am,an,g⟩;have as:i<ks.length:=by rw [List.length_map]at hi;exact hi
  obtain rfl:y=.ref ks[i].1:=by
   rw [List.getElem?_map,List.getElem?_eq_getElem as]at hy;exact(Option.some.inj hy).symm
  have be:=List.getElem_mem as;obtain⟨cg,bf⟩:=(ac.same g).2 _ be;have bg:=af.ok.rows _ be;have dd:=bg.len;have ch:l.length=i:=by
   have:=congrArg List.length Y;rw [List.length_map,List.length_take]at this;lia
  refine⟨ks[i].1,_,_,rfl,cg,Zk ⟨_,rfl,_,rfl,ks[i].2.2.1,ks[i].2.2.2.map (λr=>(r.1,r.2.1,V.ref r.2.2.1)),rfl,(by rw [List.map_map];exact bf.1),λt ht=>?_,(by rw [List.map_map];exact bg.nd),(36:),λd J=>⟨(30:),λp2 bi=>?_⟩⟩⟩
  .obtain⟨r,hr,rfl⟩:=List.mem_map.mp ht;exact(bf.2 r hr).1
  have ed:(ks[i].2.2.2.map (λr=>(r.1,r.2.1,V.ref r.2.2.1))).map (λt=>(57:))=ks[i].2.2.2.map λr=>((Sum.inr r.2.1:Key),V.ref r.2.2.1):=by rw [List.map_map];rfl
  rw [ed]at bi ⊢;have e1:=Qc J (.dK (ks[i].2.2.2.map λr=>((Sum.inr r.2.1:Key),V.ref r.2.2.1)));have e2:=Qc bi (.tup [.str ks[i].2.1,.ref d]);have ag:=e1.trans e2;have ad:=ag _ _ an;have ci:d≠acc:=λz=>by rw [z,an]at J;cases J
  refine QB (ys:=l.map λq=>V.ref q.2.1) hi ad (36:) ⟨l++[(ks[i],p2,d)],by simp,?_,λq hq=>?_,Qb,λb u e=>by rw [Qg (Qd e ar)];exact ag _ _ (g _ _ e)⟩
  .rw [List.map_append,Y,List.take_add_one,List.getElem?_eq_getElem as];rfl
  .rcases List.mem_append.mp hq with z | z
   .obtain⟨a1,a2⟩:=am q z;refine⟨(ag.seqT a1).put ad,?_⟩;rw [Qg (ne_of (ag _ _ a2) ad (10:))];exact ag _ _ a2
   .have:q=(ks[i],p2,d):=by simpa using z
    rw [this];refine⟨SqT.put (SqT.of Qb) ad,?_⟩;show upd _ acc _ d=_;rw [Qg ci];exact e2 _ _ Qb
 rintro ys H2 ⟨l,rfl,Y,am,an,g2⟩;rw [List.length_map,List.take_length]at Y;have ch:l.length=ks.length:=by
  have:=congrArg List.length Y
  rwa [List.length_map]at this
 refine⟨acc,l.map (λq=>(q.2.1,q.1.2.1,V.ref q.2.2)),rfl,(by rw [List.map_map];exact SqL.of an),λt ht=>?_,?_,(36:),λkb cj=>?_⟩
 .obtain⟨q,hq,rfl⟩:=List.mem_map.mp ht;exact(am q hq).1
 .rw [List.map_map];have:(l.map ((λt:Addr×Str×V=>t.2.1)∘λq:KdT×Addr×Addr=>(q.2.1,q.1.2.1,V.ref q.2.2)))=ks.map λk=>k.2.1:=by rw [<-Y,List.map_map];rfl
  rw [this];exact bz
 have ed:(l.map (λq:KdT×Addr×Addr=>(q.2.1,q.1.2.1,V.ref q.2.2))).map (λt=>(57:))=(l.map λq=>(q.1,q.2.2)).map λq=>((Sum.inr q.1.2.1:Key),V.ref q.2):=by rw [List.map_map,List.map_map];rfl
 rw [ed];have g3:=Qc cj (90:);have ab:=g2.trans g3;have ak:KbAt K (upd H2 kb (90:)) kb ks:=by
  refine⟨l.map λq=>(q.1,q.2.2),by rw [List.map_map];exact Y,Qb,λq hq=>?_⟩;obtain⟨q',bj,rfl⟩:=List.mem_map.mp hq;refine⟨g3 _ _ (am q' bj).2,λr hr=>?_⟩;have ck:q'.1∈ks:=by rw [<-Y];exact List.mem_map.mpr ⟨q',bj,rfl⟩
  exact ab.seqT (((ac.2 _ ck).2.2 r hr).2)
 generalize upd H2 kb (90:)=H3 at g3 ab ak ⊢;have bn:=ab _ _ cf;have i3:InsAt H3 x:=⟨_,_,_,bn⟩;refine⟨_,rfl,x,C,dx,_,rfl,bn,T.cl,T.nK,(by show 1<1000;decide),?_⟩;rw [f2];have au:SameX x H3 (upd H3 x (.ins C dx (fl2 tu kb))):=SameX.upd;generalize cm:upd H3 x (.ins C dx (fl2 tu kb))=H4 at au ⊢;have av:H4 x=some (.ins C dx (fl2 tu kb)):=by rw [<-cm];exact Qb
 refine λst aa=>⟨_,rfl,x,C,dx,_,rfl,(Qc aa _) _ _ av,T.cl,T.nS,(by show 2<1000;decide),?_⟩;rw [f3];have g5:=Qc aa (.dT []);have cn:SameX x (upd H4 st (.dT [])) (upd (upd H4 st (.dT [])) x (.ins C dx (fl3 tu kb st))):=SameX.upd;have aw:SameX x H3 (upd (upd H4 st (.dT [])) x (.ins C dx (fl3 tu kb st))):=au.trans ((SameX.of g5).trans cn);generalize ax:upd (upd H4 st (.dT [])) x (.ins C dx (fl3 tu kb st))=H6 at aw ⊢;have bo:H6 x=some (.ins C dx (fl3 tu kb st)):=by rw [<-ax];exact Qb
 refine⟨(99:),λwt Z=>⟨_,rfl,x,C,dx,_,rfl,(Qc Z _) _ _ bo,T.cl,T.nW,(by show 3<1000;decide),?_⟩⟩;rw [f4];have g7:=Qc Z (.lst []);have ay:wt≠x:=λz=>by rw [z,bo]at Z;cases Z
 have co:SameX x (upd H6 wt (.lst [])) (upd (upd H6 wt (.lst [])) x (.ins C dx (fl4 tu kb st wt))):=SameX.upd;have bp:SameX x H3 (upd (upd H6 wt (.lst [])) x (.ins C dx (fl4 tu kb st wt))):=aw.trans ((SameX.of g7).trans co);have az:upd (upd H6 wt (.lst [])) x (.ins C dx (fl4 tu kb st wt)) wt=some (.lst []):=by rw [Qg ay];exact Qb
 generalize bq:upd (upd H6 wt (.lst [])) x (.ins C dx (fl4 tu kb st wt))=H8 at bp az ⊢;have cp:H8 x=some (.ins C dx (fl4 tu kb st wt)):=by rw [<-bq];exact Qb
 refine⟨_,rfl,x,C,dx,_,rfl,cp,T.cl,T.nF,(by show 4<1000;decide),?_⟩;rw [f5];have cq:SameX x H8 (upd H8 x (.ins C dx (YE tu kb st wt .non))):=SameX.upd;have ao:=bp.trans cq;have a0:upd H8 x (.ins C dx (YE tu kb st wt .non)) wt=some (.lst []):=by rw [Qg ay];exact az
 generalize br:upd H8 x (.ins C dx (YE tu kb st wt .non))=H9 at ao a0 ⊢;have a3:H9 x=some (.ins C dx (YE tu kb st wt .non)):=by rw [<-br];exact Qb
 have i9:InsAt H9 x:=⟨_,_,_,a3⟩;have a4:SameX x H H9:=g1.trans ((SameX.of ab).trans ao);refine⟨_,rfl,x,dx,_,rfl,a3,rfl,_,rfl,tu,_,0,_,rfl,rfl,i0.seqT a4 bd,rfl,wd,ks1,a9,rfl,WoodAt.insX i0 a4 cb,bx,λrw kk cr ct cu cv=>⟨(98:),λsp cw=>⟨(99:),λpl cx=>?_⟩⟩⟩;have a5:=Qc cw (.tup [.int 0,.non,.ref rw]);have ap:=Qc cx (.tup []);have ah:=ct.trans (a5.trans ap);have aq:SameX x H _:=a4.trans (SameX.of ah);have cy:atI (ks.map λk=>V.ref k.1) 0=some (.ref U.1):=Qo (j:=0) (by rw [List.getElem?_map,aj];rfl);have a6:=WoodAt.insX i0 aq ba;refine⟨_,rfl,tu,_,1,_,rfl,rfl,i0.seqT aq bd,rfl,_,rfl,wo,_,0,_,rfl,rfl,a6.1,cy,U.1,_,0,_,rfl,rfl,(a6.2 U (List.mem_of_getElem? aj)).1,rfl,?_⟩;have b0:SqT K (upd (upd cr sp (.tup [.int 0,.non,.ref rw])) pl (.tup [])) sp [.int 0,.non,.ref rw]:=ap.seqT (SqT.of Qb);have b4:=(a5.trans ap).seqT cu;have b5:=(a5.trans ap).seqT cv;have b6:H9 st=some (.dT []):=by
  have n1:st≠x:=λz=>by rw [z,av]at aa;cases aa
  have n2:st≠wt:=λz=>by
   rw [<-z,<-ax,Qg n1]at Z;rw [show upd H4 st (.dT []) st=some (.dT [])from Qb]at Z;cases Z
  rw [<-br,Qg n1,<-bq,Qg n1,Qg n2,<-ax,Qg n1];exact Qb
 have D0:DmS K C nm ks H9 x dx tu kb st wt .non []:=⟨a3,⟨[],rfl,b6,λq hq=>(nomatch hq)⟩,⟨[],rfl,a0,λq hq=>(nomatch hq)⟩,List.nodup_nil,λd J=>(nomatch J),.inl rfl⟩;have bt:H st=none:=by
  cases e:H st with
  | none=>rfl
  | some u=>
   have n1:st≠x:=λz=>by rw [z,av]at aa;cases aa
   have:=(g1.trans ((SameX.of ab).trans au)) st u n1 e;rw [aa]at this;cases this
 have bu:H wt=none:=by
  cases e:H wt with
  | none=>rfl
  | some u=>
   have:=(g1.trans ((SameX.of ab).trans aw)) wt u ay e;rw [Z]at this;cases this
 refine⟨nm,ks,x,dx,tu,kb,st,wt,sp,pl,.non,sv,U.2.1,[],t0,_,[],rfl,D0.same ah,(ak.insX i3 ao).same ah,af,⟨0,.non,rw,kk,S [],_,b0,b4,b5,rfl⟩,SqT.of Qb,by simpa using hn,cc.mono λ_ _=>i0.seqT aq,hO.st,⟨U,List.mem_of_getElem? aj,rfl⟩,bb,λH' cz gx D' b7=>?_⟩;have bv:∀{L},SameD x st wt H' L->SameX x H L:=λ{L} g b u nb e=>g b u nb (Qd e bt) (Qd e bu) (gx b u nb (Qd e bt) (Qd e bu) (aq b u nb e));have b8:∀{L},SameD x st wt H' L->∀H3,SameD x st wt L H3->TuAt K H3 tu wd sv lm ks1 t0 ms:=λ{L} g H3 g3=>al.insX i0 (bv (g.trans g3));have b9:=(D0.same ah).kbAt gx ((ak.insX i3 ao).same ah);refine Gk (λm σ L=>∃(j:Nat)(fv:V)(ds:List Dd),σ=[some (.ref x),some (.ref tu),some (.ref wo),some (.int (j:Int))]/\SameD x st wt H' L/\DmS K C nm ks L x dx tu kb st wt fv ds/\j<=ds.length/\m+j=nm*ks.length+1/\
  (∀e∈dmd (Qv ks) n t0 U.2.1,e∈ds)/\(∀(i:Nat) d,i<j->ds[i]?=some d->∀e∈dR (Qv ks) n ms d,e∈ds)/\(∀S:Dd->Prop,(∀e∈dmd (Qv ks) n t0 U.2.1,S e)->(∀d,S d->∀e∈dR (Qv ks) n ms d,S e)->∀e∈ds,S e)/\
  (fv=.non↔okk (Qv ks) n t0 U.2.1/\∀(i:Nat) d,i<j->ds[i]?=some d->okR (Qv ks) n ms d)) (nm*ks.length+1)
  ⟨0,cz,_,rfl,SameD.refl _ _ _ _,D',Nat.zero_le _,rfl,λe he=>Zo.mpr (.inr he),λi d hi=>absurd hi (Nat.not_lt_zero _),λS h1 _ e he=>h1 e ((Zo.mp he).elim (44:) id),b7.trans ⟨λz=>⟨z.2,λi d hi=>absurd hi (Nat.not_lt_zero _)⟩,λz=>⟨rfl,z.1⟩⟩⟩ ?_ ?_
 .rintro m σ L ⟨j,fv,ds,rfl,g,D,hj,hm,c1,c2,c3,c4⟩;obtain⟨ws,b1,b2,b3⟩:=id D.hwt;have da:=JW D.nd D.dk;have de:ws.length=ds.length:=by rw [<-b1,List.length_map]
  refine⟨_,rfl,_,rfl,x,C,dx,_,_,rfl,D.hx,T.cl,T.nW,rfl,wt,_,rfl,.inl (SqL.of b2),_,_,rfl,rfl,_,rfl,WE (λc=>?_) (λc=>?_)⟩
  .have c':(j:Int)<(((ws.map λq=>V.ref q.1).length:Nat):Int):=of_decide_eq_true c;rw [List.length_map]at c';have a7:j<ws.length:=by lia
   have df:j<ds.length:=by lia
   have ai:ds[j]?=some ws[j].2:=by rw [<-b1,List.getElem?_map,List.getElem?_eq_getElem a7];rfl
   refine⟨_,rfl,x,dx,_,rfl,D.hx,rfl,_,rfl,x,C,dx,_,_,rfl,D.hx,T.cl,T.nW,rfl,_,rfl,wt,_,_,_,rfl,rfl,SqL.of b2,Qo (by rw [List.getElem?_map,List.getElem?_eq_getElem a7];rfl),?_⟩;refine⟨nm,ks,ks1,x,dx,tu,kb,st,wt,ws[j].1,wd,lm,sv,fv,t0,ms,ds,ws[j].2,rfl,D,D'.kbAt g b9,af,b3 _ (List.getElem_mem a7),List.mem_of_getElem? ai,bb,hn,hO,b8 g,λH3 c0 g3 D3 a8=>?_⟩;obtain⟨r,er⟩:=Wq (ds:=ds) (l:=dR (Qv ks) n ms ws[j].2);have ae:∀i:Nat,i<=j->(YC ds (dR (Qv ks) n ms ws[j].2))[i]?=ds[i]?:=λi hi=>by rw [er,List.getElem?_append_left (6:)]
   refine⟨_,rfl,_,_,rfl,rfl,m-1,by lia,j+1,c0,_,rfl,g.trans g3,D3,?_,by lia,λe he=>Zo.mpr (.inl (c1 e he)),λi d hi J e he=>?_,λS s1 s2 e he=>?_,?_⟩
   .rw [er,List.length_append];lia
   .rw [ae i (6:)]at J;rcases Nat.lt_or_ge i j with z | z
    .exact Zo.mpr (.inl (c2 i d z J e he))
    .obtain rfl:i=j:=by lia
     rw [ai]at J;obtain rfl:=Option.some.inj J;exact Zo.mpr (.inr he)
   .have bw:=c3 S s1 s2;rcases Zo.mp he with z | z
    .exact bw e z
    .exact s2 _ (bw _ (List.mem_of_getElem? ai)) e z
   .rw [a8,c4,and_assoc];refine and_congr_right λ_=>⟨λ⟨e1,e2⟩ i d hi J=>?_,λz=>⟨λi d hi J=>z i d (6:) (by rw [ae i (6:)];exact J),z j _ (6:) (by rw [ae j (7:)];exact ai)⟩⟩;rw [ae i (6:)]at J;rcases Nat.lt_or_ge i j with z | z
    .exact e1 i d z J
    .obtain rfl:i=j:=by lia
     rw [ai]at J;obtain rfl:=Option.some.inj J;exact e2
  .have c':¬((j:Int)<(((ws.map λq=>V.ref q.1).length:Nat):Int)):=λz=>c (decide_eq_true z);rw [List.length_map]at c';have dg:ds.length<=j:=by lia
   refine hQ L kb st wt fv ds (bv g) D.hx ⟨c1,λd J e he=>?_,c3⟩ (c4.trans (and_congr_right λ_=>⟨λz d J=>?_,λz i d _ J=>z d (List.mem_of_getElem? J)⟩))
   .obtain⟨i,hi,ei⟩:=List.getElem_of_mem J;exact c2 i d (6:) (by rw [List.getElem?_eq_getElem hi,ei]) e he
   .obtain⟨i,hi,ei⟩:=List.getElem_of_mem J;exact z i d (6:) (by rw [List.getElem?_eq_getElem hi,ei])
 .intro σ H Q Q' hm h;obtain⟨v1,h1,v2,h2,x1,x2,x3,x4,x5,h3,h4,h5,h6,h7,x6,x7,h8,h9,x8,x9,c5,c6,c7,c8,c9⟩:=h;exact⟨v1,h1,v2,h2,x1,x2,x3,x4,x5,h3,h4,h5,h6,h7,x6,x7,h8,h9,x8,x9,c5,c6,c7,c8,hm _ _ c9⟩
end
end K65
namespace L2
open PySem PySem.Spec PyProof.Rows
def Oo(e:Expr):Arguments:=match e with
 | .Lambda a _ _ _=>a
 | _=>{ posonlyargs:=[],args:=[],vararg:=none,kwonlyargs:=[],kw_defaults:=[],kwarg:=none,defaults:=[] }
def V4(e:Expr):Expr:=match e with
 | .Lambda _ b _ _=>b
 | _=>e
def Qu(e:Expr):Scope:=match e with
 | .Lambda _ _ s _=>s
 | _=>{ kind:=.function,names:=[],isGenerator:=false,isCoroutine:=false }
def Vg(e:Expr):Pos:=match e with
 | .Lambda _ _ _ p=>p
 | _=>⟨0,0,0,0⟩
def S8(s:Stmt):Expr:=match(defBody s).getLast? with
 | some (.Return (some e) _)=>e
 | _=>.Name "" ⟨0,0,0,0⟩
def S0(e:Expr)(i:Nat):Expr:=match e with
 | .Call _ as _ _=>as.getD i e
 | _=>e
def GB(f:Addr)(fd:FuncData):HO:=.ext λh=>h.get? f=some { cls:=.type "function",data:=.func fd }
def No(c:Addr)(qual:Str):HO:=.ext λh=>h.CodeRec (.ref c) qual
def TbS(H:Hp)(T:Addr)(pos:Pos)(qual:Str):Prop:=H T=some (.tbl #[])\/∃c,H T=some (.tbl #[rawInt pos.line,rawInt pos.col,.ref c])/\H c=some (No c qual)
theorem TbS.at{H:Hp}{T:Addr}{pos:Pos}{qual:Str}(h:TbS H T pos qual):∃ps,H T=some (.tbl ps):=by
 rcases h with h | ⟨c,h,_⟩
 .exact⟨_,h⟩
 .exact⟨_,h⟩
theorem TbS.same{H H':Hp}{T:Addr}{pos:Pos}{qual:Str}(g:Same H H')(h:TbS H T pos qual):TbS H' T pos qual:=by
 rcases h with h | ⟨c,h,h2⟩
 .exact .inl (g _ _ h)
 .exact .inr ⟨c,g _ _ h,g _ _ h2⟩
def XZ(mg:Str->Option Value)(base:Heap):Prop:=∃bm o,mg "__builtins__"=some (.ref bm)/\bm≠builtinsNs/\bm≠mainGlobals/\base.get? bm=some o/\o.cls=.type "module"/\ o.dict=some builtinsNs/\o.data=.plain
section
variable{X:Cx}
theorem VR{P:Program}{w:World}{H:Hp}{h:Heap}{f:Addr}{fd:FuncData}(e:h.get? f=some { cls:=.type "function",data:=.func fd }):ObjOk P w H h f (GB f fd):=⟨e,⟨_,e⟩,λ_ _ e1 k=>k _ e1⟩
theorem OJ{P:Program}{w:World}{H:Hp}{h:Heap}{c:Addr}{qual:Str}(e:h.CodeRec (.ref c) qual):ObjOk P w H h c (No c qual):=by
 refine⟨e,?_,λh1 h2 e1 k=>?_⟩
 .obtain⟨U,J,vs,L,z,G,_⟩:=e;cases z;exact⟨_,G⟩
 .obtain⟨U,J,vs,L,z,G,r⟩:=e1;cases z;exact⟨c,J,vs,L,rfl,k _ G,r⟩
end
end L2
namespace L2
open PySem PySem.Spec PyProof.Rows
section
variable{X:Cx}
end
section
variable{P:Program}{w:World}{K:Fg}{mg:Str->Option Value}{base:Heap}
theorem GA{x:Str}{f c T:Addr}{oc:Value}{od:Option Addr}{fd:FuncData}{sl:Array (Option Value)}(hn:PySem.W.nsIn K mainGlobals x=some (some (82:)))(lk:K.lookup f=some ⟨oc,od,.func fd,sl⟩)(h:PySem.W.tabIn K x=some (c,T)):fd.code=.ref c:=by
 unfold PySem.W.tabIn at h;rw [hn]at h;simp only [lk]at h;split at h
 .rename_i J G;split at h
  .split at h
   .cases h;exact G
   .cases h
  .cases h
 .cases h
theorem Fun.okC{x qual:Str}{st:Stmt}{f c T:Addr}{fd:FuncData}{N ps:List Str}{k:Nat}{sp:Sp}(F:Fun K x qual st f fd)(hn:PySem.W.nsIn K mainGlobals x=some (some (82:)))(hT:PySem.W.tabIn K x=some (c,T))(S:FnScope N ps (52:))(len:∀vs H Q E,sp vs H Q E->vs.length=ps.length)
 (hbody:∀(A:Around)(outer:List Env)(s:Shared)(H:Hp)(vs:List V)(Q:VK)(E:XK),Room k (A.deeper (envOfC qual (52:) s.heap.objs.size f (.ref c)))->sp vs H Q E->
  ∃t,PSs (Qn CX0 P w K mg base N qual (52:) f (.ref c) A outer s H E).nox (83:) t/\t { nx:=λ_ H'=>Q .non H',rt:=Q } (ZH N vs) H):FnOk P w K mg base CX0 (k+1) f fd ps sp:=by
 obtain⟨oc,od,kV,Z,pm,an,G,ct,aa,rfl,J,L⟩:=F.ex;have e:G=.ref c:=GA hn J hT;subst e;refine Gi J L S len λA outer s H vs Q E Y U=>?_;obtain⟨t,h,q⟩:=hbody A outer s H vs Q E Y U;exact⟨t,h.nox,q⟩
end
end L2
namespace L2
open PySem PySem.Spec PyProof.Rows
theorem Le{P:Program}{w:World}{K:Fg}{mg mb:Str->Option Value}{k:Nat}{fa a:Addr}{fd:FuncData}{x:Str}{sp:Sp}{s₁:Shared}{vs:List Value}{ns:List Int}{Ts:List Addr}
 (KX:K.In s₁.heap) (hns:s₁.heap.Ns mainGlobals mg) (hb:s₁.heap.Ns builtinsNs mb) (hbb:∀x:Str,x≠"__name__"->mb x=bootBuiltins x) (hlim:s₁.heap.NoLimit) (hg:s₁.gens=#[]) (hbt:XZ mg s₁.heap)
 (hTs:∀T∈Ts,s₁.heap.get? T=some { cls:=.none,data:=.fields #[] }/\isCodeTable s₁.heap T/\K.lookup T=none)
 (ha:s₁.heap.get? a=some { cls:=.type "list",data:=.seq vs.toArray }) (hi:IntsAre vs ns) (hl:ns.length<=sizeLine) (hr:Room k callerA)
 (F:∀base:Heap,K.In base->base.Ns mainGlobals mg->XZ mg base->FnOk P w K mg base CX0 k fa fd [x] sp) (hbind:∀(s:Shared)(u:Value),BindsTo s fd ⟨[u],[]⟩ [(x,u)])
 (hsp:∀H:Hp,SqL K H a (ns.map V.int)->(∀T∈Ts,H T=some (.tbl #[]))->sp [.ref a] H (λv _=>v=.bl true) λ_ _ _=>False):
 codeAny (model P w) callerA (.call (.ref fa) ⟨[.ref a],[]⟩) (24:) s₁:=by
 have rv:=YZ hi;have af:=hi.length;have Z:∀H:Hp,(∀b,H b=none\/(b=a/\K.lookup a=none/\∃o xs,H b=some (.frz o (.lst xs)))\/(b∈Ts/\H b=some (.tbl #[])))->SqL K H a (ns.map V.int)->(∀T∈Ts,H T=some (.tbl #[]))->HOk P w H s₁.heap->
  codeAny (model P w) callerA (.call (.ref fa) ⟨[.ref a],[]⟩) (24:) s₁:=by
  intro H hO hS U ac;have G:∀{b:Addr}{o:Obj},s₁.heap.get? b=some o->H b=none->(YA s₁.heap H).get? b=some o:=λe n=>WR e n;have ad:∀{b:Addr}{o:Obj},s₁.heap.get? b=some o->(∀xs n,o.data≠.seq xs n)->(∀xs,o.data≠.fields xs)->H b=none:=λ{b o} e d1 d2=>by
   rcases hO b with z | ⟨rfl,_⟩ | ⟨z,_⟩
   .exact z
   .rw [ha]at e;cases e;exact absurd rfl (d1 _ _)
   .rw [(hTs b z).1]at e;cases e;exact absurd rfl (d2 _)
  have Y:∀{b:Addr}{m:Str->Option Value},s₁.heap.Ns b m->(YA s₁.heap H).Ns b m:=λ{b m} ⟨o,es,ep,e,d,r⟩=>⟨o,es,ep,G e (ad e (λ_ _ z=>by rw [d]at z;cases z) (λ_ z=>by rw [d]at z;cases z)),d,r⟩;have ae:K.In (YA s₁.heap H):=λb o e=>G (KX b o e) (by
   rcases hO b with z | ⟨rfl,hk,_⟩ | ⟨z,_⟩
   .exact z
   .rw [hk]at e;cases e
   .rw [(hTs b z).2.2]at e;cases e)
  have ah:XZ mg (YA s₁.heap H):=by
   obtain⟨bm,o,b1,b2,b3,b4,b5,b6,b7⟩:=hbt;exact⟨bm,o,b1,b2,b3,G b4 (ad b4 (λ_ _ z=>by rw [b7]at z;cases z) (λ_ z=>by rw [b7]at z;cases z)),b5,b6,b7⟩
  have hM:Mod K mg (YA s₁.heap H):=⟨ae,Y hns,⟨mb,Y hb,hbb⟩,let⟨mc,h1,h2⟩:=hlim;⟨mc,Y h1,h2⟩⟩;have e0:Env0 P w K mg (YA s₁.heap H) callerA [] s₁ H:=⟨rfl,hM,λb o e=>V5 e,Nat.le_of_eq (JY _ _),trivial,λb hb=>absurd (show b∈([]:List Addr)from hb) (21:),ac,.of_eq hg⟩;refine codeAny_mono ((F _ ae (Y hns) ah).run callerA [] s₁ H ⟨[.ref a],[]⟩ [.ref a] [.ref a] _ _ hr e0 (hbind s₁ (.ref a)) (.cons rfl .nil) (hsp H hS U)) λr s' h=>?_;cases r with
  | error e=>exact h.elim
  | ok fl=>
   cases fl with
   | next=>exact False.elim h
   | brk=>exact False.elim h
   | cont=>exact False.elim h
   | ret u=>
    obtain⟨v,H',os,ag,un,aa,r',q⟩:=h;have q':v=.bl true:=q;subst q';obtain rfl:u=Value.bool true:=r';refine⟨rfl,⟨λb o e=>?_,λb o e=>un.there b o e (21:)⟩,os,ag⟩;rcases hO b with z | ⟨rfl,_,ob,xs,z⟩ | ⟨zT,z⟩
    .exact .inl (un.keep b o e z (by intro z;exact absurd (show b∈([]:List Addr)from z) (21:)) (21:))
    .have z2:=un.frzs b ob _ z;obtain⟨e1,_⟩:=ac b _ z;obtain⟨e2,_⟩:=aa b _ z2;rw [e]at e1;cases e1;exact .inl e2
    .obtain⟨ab,z2⟩:=un.tbls b _ z;have e2:s'.heap.get? b=some { cls:=.none,data:=.fields (#[]++ab) }:=aa b _ z2;obtain⟨t1,t2,_⟩:=hTs b zT;rw [t1]at e;cases e;exact .inr (.inl ⟨t2,rfl,#[],ab,rfl,e2⟩)
 have ai:∀T∈Ts,T≠a:=λT U z=>by
  have:=(hTs T U).1;rw [z,ha]at this;cases this
 cases hk:K.lookup a with
 | some o=>
  have e:=KX a o hk;rw [ha]at e;cases e;refine Z (λb=>if b∈Ts then some (.tbl #[])else none) (λb=>?_) (.inr ⟨_,vs.toArray,_,hk,rfl,rfl,rfl,by rw [List.size_toArray,af];exact hl,by simpa using rv⟩) (λT U=>if_pos U) (λb u z=>?_)
  .by_cases hb:b∈Ts
   .exact .inr (.inr ⟨hb,if_pos hb⟩)
   .exact .inl (if_neg hb)
  .by_cases hb:b∈Ts
   .have L:=(if_pos hb).symm.trans z;cases L;exact(hTs b hb).1
   .have L:=(if_neg hb).symm.trans z;cases L
 | none=>
  refine Z (λb=>if b=a then some (.frz { cls:=.type "list",data:=.seq vs.toArray } (.lst (ns.map V.int)))else if b∈Ts then some (.tbl #[])else none) (λb=>?_) (.inl (.inr ⟨{ cls:=.type "list",data:=.seq vs.toArray },if_pos rfl⟩)) (λT U=>(if_neg (ai T U)).trans (if_pos U)) (λb u z=>?_)
  .by_cases hb:b=a
   .exact .inr (.inl ⟨hb,hk,_,_,if_pos hb⟩)
   .by_cases J:b∈Ts
    .exact .inr (.inr ⟨J,(if_neg hb).trans (if_pos J)⟩)
    .exact .inl ((if_neg hb).trans (if_neg J))
  .by_cases hb:b=a
   .have L:=(if_pos hb).symm.trans z;cases L;subst hb;exact⟨ha,by rw [List.length_map];exact hl,vs,_,rv,ha⟩
   .have z1:=(if_neg hb).symm.trans z
    by_cases J:b∈Ts
    .have L:=(if_pos J).symm.trans z1;cases L;exact(hTs b J).1
    .have L:=(if_neg J).symm.trans z1;cases L
structure TabAt(q:Program)(K:Fg)(x:Str)(c T:Addr):Prop where
 fnd:∃d,(recsOf q).find? (λe=>e.name==x)=some d
 tab:PySem.W.tabIn K x=some (c,T)
 hd:PySem.W.codeHdIn K c T=true
 no:K.lookup T=none
theorem walk_ofT{l:PySem.W.OpenLaw}{n k:Nat}{q:Program}{loose:List Str}{XP:(Str->Option Value)->Heap->Prop}{YP:World->Heap->Prop}{d:DefRec}{K:Params->Fg}{sp:World->Sp}{x:Str}{tabs:List (Str×Addr×Addr)}
 (hn:l.most=some n) (hn2:n<=sizeLine) (hdf:d.params.defaults=[]) (hr:Room k callerA)
 (hY:∀(w:World)(h:Heap),YP w h->(K w.params).In h)
 (htab:∀(w:World),∀p∈tabs,TabAt q (K w.params) p.1 p.2.1 p.2.2)
 (F:∀(w:World)(mg:Str->Option Value)(fa:Addr)(h:Heap),(K w.params).In h->h.Ns mainGlobals mg->mg d.name=some (.ref fa)->
  ∃fd:FuncData,(∀(s:Shared)(u:Value),BindsTo s fd ⟨[u],[]⟩ [(x,u)])/\
   ∀base:Heap,(K w.params).In base->base.Ns mainGlobals mg->XZ mg base->FnOk l.prog w (K w.params) mg base CX0 k fa fd [x] (sp w))
 (hsp:∀(w:World)(H:Hp)(a:Addr)(ns:List Int),ns.length<=n->SqL (K w.params) H a (ns.map V.int)->(∀p∈tabs,H p.2.2=some (.tbl #[]))->sp w [.ref a] H (λv _=>v=.bl true) λ_ _ _=>False):
 PySem.W.WalkO q loose XP YP l.row.toRowW d [] (λf vs=>PySem.call f vs):=by
 refine Att.attach_call hn hdf λw s₀ af mg mb fa o pm cd ag a vs ns G Y ho hd ah ab U L J hg=>?_;have Z:=hY w _ Y;obtain⟨fd,hb,hF⟩:=F w mg fa _ Z G.T.g ab;have ac:XZ mg af.heap:=by
  obtain⟨bm,ob,b1,b2,b3,b4,b5,b6⟩:=G.T.bmain;have ad:bm≠mainGlobals:=λq=>by
   obtain⟨o,es,ep,e,hd,_⟩:=G.T.g;rw [q,e]at b3;cases b3;rw [hd]at b6;cases b6
  exact⟨bm,ob,b1,b2,ad,b3,b4,b5,b6⟩
 refine Le (Ts:=tabs.map λp=>p.2.2) Z G.T.g G.T.b G.T.builtins G.T.nolimit hg ac (λT hT=>?_) U L (Nat.le_trans J hn2) hr hF hb (λH hS hT=>hsp w H a ns J hS λp hp=>hT _ (List.mem_map.mpr ⟨p,hp,rfl⟩));obtain⟨p,hp,rfl⟩:=List.mem_map.mp hT;obtain⟨⟨dd,aa⟩,ht,_,ae⟩:=htab w p hp;obtain⟨hc,h0⟩:=PySem.W.tab_of G.T Z aa ht;exact⟨h0,(hc.tab h0).isCodeTable,ae⟩
end L2
namespace L2
open PySem PySem.Spec PyProof.Rows
theorem ObjOk.there{P:Program}{w:World}{H:Hp}{h:Heap}{a:Addr}{o:HO}(x:ObjOk P w H h a o):∃ob,h.get? a=some ob:=by
 cases o with
 | lst xs=>obtain⟨_,_,_,_,e⟩:=x;exact⟨_,e⟩
 | tup xs=>obtain⟨_,_,_,_,e,_⟩:=x;exact⟨_,e⟩
 | dK kvs=>obtain⟨_,_,_,_,o,_,_,e,_⟩:=x;exact⟨_,e⟩
 | dT kvs=>obtain⟨_,_,_,_,o,_,_,e,_⟩:=x;exact⟨_,e⟩
 | set S n=>obtain⟨o,_,_,_,e,_⟩:=x;exact⟨_,e⟩
 | ins C dx fs=>obtain⟨_,_,_,e,_⟩:=x;exact⟨_,e⟩
 | own y=>obtain⟨_,e⟩:=x;exact⟨_,e⟩
 | xd fs=>obtain⟨_,⟨_,_,_,e,_⟩,_⟩:=x;exact⟨_,e⟩
 | rng lo hi=>obtain⟨_,_,_,e⟩:=x;exact⟨_,e⟩
 | frz ob u=>obtain⟨e,_⟩:=x;exact⟨_,e⟩
 | tbl ps=>exact⟨_,(show h.get? a=some _ from x)⟩
 | met f y=>exact⟨_,(show h.get? a=some _ from x)⟩
 | ext G=>obtain⟨_,e,_⟩:=x;exact e
def Cov(B:Heap)(fs:List Addr)(H':Hp)(h h1:Heap):Prop:=∀b o,h1.get? b=some o->(H' b≠none\/∃o',h.get? b=some o')->b∉fs->B.get? b=some o
structure Flw(P:Program)(w:World)(outer:List Env)(H:Hp)(s:Shared)(a:Addr)(cls:Value)(H':Hp)(s':Shared):Prop where
 os:s'.os=s.os
 bare:AllBare s'.gens
 un:Un (frs outer) [] H H' s.heap s'.heap
 hok:HOk P w H' s'.heap
 fly:∃B t,Heap.FlyingW B outer a cls (.ref t) s'.heap/\Cov B (frs outer) H' s.heap s'.heap
def CX1(P:Program)(w:World):CXT:=λouter H s E e s'=>∃(a:Addr)(cls:Value)(H':Hp),e=.ref a/\Flw P w outer H s a cls H' s'/\E cls none H'
theorem Rg{fs:List Addr}{H H':Hp}{h h1 h2 B:Heap}(u:Un fs [] H H' h h1)(cov:Cov B fs H' h h1)(st:B.StaysIn h2)(up:h1.UpToSlots h2)(hfs:∀b∈fs,∀o,h1.get? b=some o->∀vs,o.data≠.fields vs):Un fs [] H H' h h2 where
 keep:=λb o e n G J=>st _ _ (cov b o (u.keep b o e n G J) (.inr ⟨o,e⟩) G)
 slot:=λb o e n G J=>by
  obtain⟨Y,e1⟩:=u.slot b o e n G J;obtain⟨L,e2⟩:=up b _ e1 (hfs b G _ e1);exact⟨L,e2⟩
 free:=u.free
 there:=λb o e J=>by
  obtain⟨U,e1⟩:=u.there b o e J
  by_cases G:b∈fs
  .obtain⟨L,e2⟩:=up b _ e1 (hfs b G _ e1);exact⟨_,e2⟩
  .exact⟨U,st _ _ (cov b U e1 (.inr ⟨o,e⟩) G)⟩
 tups:=u.tups
 frzs:=u.frzs
 tbls:=u.tbls
theorem Ou{P:Program}{w:World}{fs:List Addr}{H':Hp}{h h1 h2 B:Heap}(hok:HOk P w H' h1)(trk:∀b∈fs,H' b=none)(cov:Cov B fs H' h h1)(st:B.StaysIn h2):HOk P w H' h2:=λb u e=>by
 refine(hok b u e).stay (λc v hc r=>?_) (λ_ r=>r) λ_ _ r=>r;have G:H' c≠none:=by
  rcases hc with rfl | hc
  .rw [e];intro z;cases z
  .rw [hc];intro z;cases z
 exact st _ _ (cov c v r (.inl G) λz=>G (trk c z))
section
variable{X:Cx}{pins:List (8:)}{σ:St}{H H':Hp}{s s':Shared}
theorem WB{B:Heap}{l:List Env}{h:Heap}(hl:h.FunFrames B l):∀b∈frs l,∀o,h.get? b=some o->∀vs,o.data≠.fields vs:=λb J o e vs=>by
 obtain⟨_,o',G,d⟩:=hl.mem J;rw [e]at G;cases G;exact d vs
theorem VX(I:Inv X pins σ H s)(u:Un (frs X.stack) [] H H' s.heap s'.heap):∀b∈frs X.stack,H' b=none:=λb G=>by
 obtain⟨_,o,J,_⟩:=I.stack.mem G;exact u.free b o J (I.stkFree b G) (21:)
theorem Inv.flown{h2 B:Heap}(I:Inv X pins σ H s)(os:s'.os=s.os)(bare:AllBare s'.gens)(un:Un (frs X.stack) [] H H' s.heap s'.heap)(hok:HOk X.prog X.w H' s'.heap)(hfr:s'.heap.FunFrames B X.stack)(cov:Cov B (frs X.stack) H' s.heap s'.heap)(st:B.StaysIn h2)(up:s'.heap.UpToSlots h2):
 Inv X pins σ H' { s' with heap:=h2 }:=
 I.call' (s':={ s' with heap:=h2 }) (ch:=[]) os (Rg un cov st up (WB hfr)) (Ou hok (VX I un) cov st) bare (λb z=>absurd z (21:))
theorem Cov.out{B h2:Heap}{H0:Hp}{s0:Shared}(I:Inv X pins σ H s)(hH0:X.H₀=H0)(hs0:X.s₀=s0)(hex:X.ex=[])(un:Un (frs X.stack) [] H H' s.heap s'.heap)(hok:HOk X.prog X.w H' s'.heap)(cov:Cov B (frs X.stack) H' s.heap s'.heap)(st:B.StaysIn h2):Cov B X.fs H' s0.heap h2:=λb o e G nb=>by
 have key:∃o',s'.heap.get? b=some o'/\b∉frs X.stack/\(H' b≠none\/∃o',s.heap.get? b=some o'):=by
  rcases G with G | ⟨o',G⟩
  .cases J:H' b with
   | none=>exact absurd J G
   | some u=>
    obtain⟨o',L⟩:=(hok b u J).there;refine⟨o',L,λz=>?_,.inl (10:)⟩;rw [VX I un b z]at J;cases J
  .have h1:X.s₀.heap.get? b=some o':=by rw [hs0];exact G
   obtain⟨U,e1⟩:=I.base.there b o' h1 (by rw [hex];simp);obtain⟨o2,e2⟩:=un.there b U e1 (21:);refine⟨o2,e2,λz=>?_,.inr ⟨U,e1⟩⟩;rcases List.mem_cons.mp (I.stkSub b z)with z | z
   .rw [z]at h1;exact absurd (Nat.lt_of_lt_of_le (Heap.lt_size h1) I.ok.above) (Nat.lt_irrefl _)
   .exact nb z
 obtain⟨o',h1,Y,h3⟩:=key;have Z:=cov b o' h1 h3 Y;have:=st _ _ Z;rw [e]at this;cases this;exact Z
end
section
variable{P:Program}{w:World}{K:Fg}{mg:Str->Option Value}{base:Heap}{N:List Str}{qual:Str}{scope:Scope}{f:Addr}{cd:Value}{A:Around}{outer:List Env}{s:Shared}{H:Hp}{E:XK}
theorem Sw{E':XK}(k:∀cls H',E' cls none H'->E cls none H'):Yz (CX1 P w) (28:) E':=by
 intro pins σ H1 Y e s' I h;obtain⟨a,cls,H',rfl,F,q⟩:=h;obtain⟨B,t,L,U⟩:=F.fly;show wpAny (model P w) (A.deeper (9:)) (leaving (9:) (.ref a)) _ _ s';refine wpAny_leaves_onW I.ok.frames rfl L λh2 G up=>?_;have J:=I.flown F.os F.bare F.un F.hok L.2.2.1 U G.1 up;exact⟨a,cls,H',rfl,⟨J.os,J.bare,J.base,J.hok,B,t,G,Cov.out I rfl rfl rfl F.un F.hok U G.1⟩,k _ _ q⟩
theorem P5{pins:List (8:)}{σ:St}{H1:Hp}{s1:Shared}{a:Addr}{cls:Value}{args:List Value}{h':Heap}(I:Inv (28:) pins σ H1 s1)(hx:Heap.MadeExcOf s1.heap h' a cls args)(q:E cls none H1):
 (28:).xe (.ref a) { s1 with heap:=h' }:=by
 show wpAny (model P w) (A.deeper (9:)) (leaving (9:) (.ref a)) _ _ _;obtain⟨G,L⟩: ∃G,G=envOfC qual scope s.heap.objs.size f cd::outer:=(51:);have Y:s1.heap.FunFrames (PySem.W.hideAll s1.heap (frs G)) G:=by
  have:=I.stack;rw [L];exact PySem.W.funFrames_hide this λenv he b hb=>List.mem_filterMap.mpr ⟨env,he,hb⟩
 have Z:Cov (PySem.W.hideAll s1.heap (frs G)) (frs G) H1 s1.heap s1.heap:=λb o e _ nb=>PySem.W.hideAll_get _ e nb;refine wpAny_leaves_madeW (base:=PySem.W.hideAll s1.heap (frs G)) (h:=s1.heap) I.ok.frames rfl (λb o q=>PySem.W.of_hideAll _ q) (L ▸ Y) hx λh2 t U tup ab up=>?_;subst L;have aa:s1.heap.UpToSlots h2:=(Heap.UpToSlots.of_keeps hx.keeps).trans up;have J:=I.flown (s':=s1) rfl I.bare Un.refl I.hok Y Z U.1 aa;exact⟨a,cls,H1,rfl,⟨J.os,J.bare,J.base,J.hok,_,t,U,Cov.out (s':=s1) I rfl rfl rfl Un.refl I.hok Z U.1⟩,q⟩
end
end L2
namespace L2
open PySem PySem.Spec PyProof.Rows
abbrev NB:List Value:=[.type "ValueError",.type "Exception",.type "BaseException",.type "object"]
theorem OK{K:Fg}{h:Heap}{C:Addr}{bmB:List Value}{newId:String}(X:K.In h)(q:PySem.W.excIn K C bmB newId=true):
 ∃tl N nm qn bs hdct sn sub ab col dd k0 k1 k2 k3 k5 mN,h.get? C=some (excClassObj nm qn C N bs tl hdct sn sub ab col dd k0 k1 k2 k3 k5 newId)/\h.Ns N mN/\mN "__init__"=none/\OwnTail h bmB tl:=by
 unfold PySem.W.excIn at q;split at q
 .rename_i dd cd U ho;split at q
  .rename_i C' bm k0 k1 k2 k3 n k5 Y hs;simp only [Bool.and_eq_true,beq_iff_eq,Bool.not_eq_true']at q;obtain⟨⟨⟨⟨⟨e1,e2⟩,G⟩,ht⟩,J⟩,L⟩:=q;subst e1 e2;obtain⟨nm,bs,aa,ns,qn,hd,sn,sub,ab,col,ac⟩:=cd;dsimp only at Y G J L;subst Y G;have Z:U=#[k0,k1,k2,k3,some (.builtin n),k5]:=by
    obtain⟨l⟩:=U;exact congrArg Array.mk hs
   subst Z;exact⟨bm,ns,nm,qn,bs,hd,sn,sub,ab,col,dd,k0,k1,k2,k3,k5,_,X _ _ ho,.of_isNs (PySem.W.isNs_of_in X J),PySem.W.nsMap_none_of_in X J L,PySem.W.tail_of_in X ht⟩
  .cases q
 .cases q
def Ri(C:Addr)(E:XK)(t:TA):TS:=λD σ H=>t σ H λvs H1=>vs.length<=sizeLine/\E (.ref C) none H1
section
variable{P:Program}{w:World}{K:Fg}{mg:Str->Option Value}{base:Heap}{N:List Str}{qual:Str}{scope:Scope}{f:Addr}{cd:Value}{A:Around}{outer:List Env}{s:Shared}{H:Hp}{E:XK}
theorem YH{x:Str}{C:Addr}{newId Bn inN:String}{bmN:List Value}{e:Expr}{es:List Expr}{t:TA}{np cpos pos:Pos}(hm:mg x=some (.ref C))(hq:PySem.W.excIn K C NB newId=true)(Fn:ExcBaseFacts Bn newId inN bmN)(hBn:NB.contains (.type Bn)=true)
 (ha:PA (28:) (e::es) t) (hg:Gl (28:) x:=by rfl) (hd:(22:)=false:=by decide)
 (he:starEach (e::es) (9:)=(false,eval e (9:))::starEach es (9:):=by rfl) (hpl:(backTo cpos (starEach es (9:))).any (·.1)=false:=by rfl):
 PS (28:) (.Raise (some (.Call (.Name x np) (e::es) [] cpos)) none pos) (Ri C E t):=by
 intro pins L σ H1 D I h;obtain⟨tl,N',nm,qn,bs,U,sn,sub,ab,Y,dd,k0,k1,k2,k3,k5,mN,hC,hN,Z,T⟩:=OK (h:=base) I.ok.mod.kin hq;refine wpAny_Raise_call_subU (C:=C) (nm:=nm) (q:=qn) (N:=N') (bs:=bs) (bm:=tl) (hdct:=U) (sn:=sn) (sub:=sub) (ab:=ab) (col:=Y) (dd:=dd) (k0:=k0) (k1:=k1) (k2:=k2) (k3:=k3) (k5:=k5)
  Fn hBn PySem.F.excBase_ValueError (mN:=mN) (T.hasType PySem.F.excBase_ValueError.hasBase) (I.ok.hd rfl) ?_ Z (ZP I hg hm ⟨rfl,?_⟩ hd)
 .show(backTo cpos (starEach (e::es) (9:))).any (·.1)=false;rw [he];show(false||(backTo cpos (starEach es (9:))).any (·.1))=false;rw [hpl];rfl
 .have hw:=ha cpos pins L σ H1 _ I h;show wpAny (model P w) (A.deeper (9:)) (evalArgs (.ref C) true (backTo cpos (starEach (e::es) (9:))) []) _ _ L;have J:wpAny (model P w) (A.deeper (9:)) (spliced (backTo cpos (starEach (e::es) (9:)))) _ _ L:=hw;rw [he]at J ⊢;refine Calls.evalArgs_plain (wpAny_mono J (λus s2 h2=>?_) λ_ _ y=>y);obtain⟨vs,H2,G,r,hl,q⟩:=h2;exact⟨rfl,by rw [<-r.length];exact hl,G.bk _ _ hC,hN.keeps G.bk,T.keeps G.bk,λh' a hx=>P5 G hx q⟩
end
end L2
namespace L2
open PySem PySem.Spec PyProof.Rows
structure FnX(P:Program)(w:World)(K:Fg)(mg:Str->Option Value)(base:Heap)(k:Nat)(x:Str)(ps:List Str)(sp:Sp):Prop where
 ex:∃(f:Addr)(fd:FuncData),FnOk P w K mg base (CX1 P w) k f fd ps sp/\Binds K fd ps []/\PySem.W.keepIn K (82:)=true/\mg x=some (82:)
def Yr(X:Cx)(EE:St->XK):Prop:=∀(pins:List (8:))(σ:St)(H:Hp)(s:Shared)(e:Value)(s':Shared),Inv X pins σ H s->CX1 X.prog X.w X.stack H s (EE σ) e s'->X.xe e s'
def Se(sp:Sp)(EE:St->XK)(t:TA):TE:=λσ H Q=>t σ H λvs H1=>sp vs H1 Q (EE σ)
section
variable{X:Cx}
theorem XR{k k':Nat}{x:Str}{ps:List Str}{sp:Sp}{EE:St->XK}{p pos:Pos}{e:Expr}{es:List Expr}{t:TA}(F:FnX X.prog X.w X.K X.mg X.base k x ps sp)(hr:Room k' X.A)(hx:Yr X EE)(ha:PA X (e::es) t)(hk:k<=k':=by decide)(hg:Gl X x:=by rfl)
 (hdb:(22:)=false:=by decide) (he:starEach (e::es) X.env=(46:)::starEach es X.env:=by rfl) (hpl:(39:).any (·.1)=false:=by rfl):
 PE X (50:) (Se sp EE t):=by
 obtain⟨f,fd,h1,h2,Z,h4⟩:=F.ex;intro pins s σ H Q I h;refine wpAny_Call_Name_kw (ZP I hg h4 ?_ hdb);refine PySem.W.callWith_K (h₀:=X.base) I.ok.mod.kin Z (thn (71:) λL U ⟨vs,H1,G,r,q⟩=>⟨G.kIn,?_⟩) he hpl;have hl:L.length=ps.length:=by rw [<-r.length];exact h1.len _ _ _ _ q
 have Y:=h2 U L G.kIn (by rw [List.append_nil];exact hl);rw [List.append_nil]at Y;refine wpAny_call (codeAny_mono (h1.run X.A X.stack U H1 ⟨L,[]⟩ L vs Q (EE σ) (hr.mono hk) G.env0 Y r q) λr s' J=>?_);cases r with
 | error e=>exact hx pins σ H1 U e s' G J
 | ok fl=>
  cases fl with
  | ret u=>exact G.after J
  | next=>exact False.elim J
  | brk=>exact False.elim J
  | cont=>exact False.elim J
end
section
variable{P:Program}{w:World}{K:Fg}{mg:Str->Option Value}{base:Heap}{N:List Str}{qual:Str}{scope:Scope}{f:Addr}{cd:Value}{A:Around}{outer:List Env}{s:Shared}{H:Hp}{E:XK}
theorem YK{E':XK}(k:∀cls H',E' cls none H'->E cls none H'):Yr (28:) (λ_=>E'):=λpins σ H1 G e s' I h=>Sw k pins σ H1 G e s' I h
theorem Fun.okX{x:Str}{st:Stmt}{fd:FuncData}{ps:List Str}{k:Nat}{sp:Sp}(F:Fun K x qual st f fd)(S:FnScope N ps (52:))(len:∀vs H Q E,sp vs H Q E->vs.length=ps.length)
 (hbody:∀(cdv:Value)(A:Around)(outer:List Env)(s:Shared)(H:Hp)(vs:List V)(Q:VK)(E:XK),Room k (A.deeper (envOfC qual (52:) s.heap.objs.size f cdv))->sp vs H Q E->
  ∃t,PSs (Qn (CX1 P w) P w K mg base N qual (52:) f cdv A outer s H E) (83:) t/\t { nx:=λ_ H'=>Q .non H',rt:=Q } (ZH N vs) H):FnOk P w K mg base (CX1 P w) (k+1) f fd ps sp:=by
 obtain⟨oc,od,kV,Y,pm,an,cdv,ct,Z,rfl,L,G⟩:=F.ex;exact Gi L G S len λA outer s H vs Q E U J=>hbody cdv A outer s H vs Q E U J
theorem Fun.okXC{x:Str}{st:Stmt}{fd:FuncData}{ps:List Str}{k:Nat}{sp:Sp}{c T:Addr}(F:Fun K x qual st f fd)(hn:PySem.W.nsIn K mainGlobals x=some (some (82:)))(hT:PySem.W.tabIn K x=some (c,T))(S:FnScope N ps (52:))(len:∀vs H Q E,sp vs H Q E->vs.length=ps.length)
 (hbody:∀(A:Around)(outer:List Env)(s:Shared)(H:Hp)(vs:List V)(Q:VK)(E:XK),Room k (A.deeper (envOfC qual (52:) s.heap.objs.size f (.ref c)))->sp vs H Q E->
  ∃t,PSs (Qn (CX1 P w) P w K mg base N qual (52:) f (.ref c) A outer s H E) (83:) t/\t { nx:=λ_ H'=>Q .non H',rt:=Q } (ZH N vs) H):FnOk P w K mg base (CX1 P w) (k+1) f fd ps sp:=by
 obtain⟨oc,od,kV,Z,pm,an,G,ct,aa,rfl,J,L⟩:=F.ex;have e:G=.ref c:=GA hn J hT;subst e;exact Gi J L S len λA outer s H vs Q E Y U=>hbody A outer s H vs Q E Y U
end
abbrev Cx.pnd(X:Cx)(pins:List (8:)):Cx:={ X with pn:=X.pn++pins }
abbrev Cx.tryx(X:Cx)(pins:List (8:))(EE:St->XK):Cx:={ X with pn:=X.pn++pins,xe:=λe s'=>∃pins' σ H s,Inv (X.pnd pins) pins' σ H s/\CX1 X.prog X.w X.stack H s (EE σ) e s' }
abbrev Cx.mrk(X:Cx)(a:Addr):Cx:={ X with A:=X.A.mark (some (.ref a)),calm:=false,xe:=λ_ _=>False }
section
variable{X:Cx}{pins:List (8:)}{σ:St}{H:Hp}{s:Shared}{EE:St->XK}{a:Addr}
theorem Inv.toTry(I:Inv X pins σ H s)(EE:St->XK):Inv (X.tryx pins EE) [] σ H s:=
 ⟨(5:),I.os,I.bare,I.base,I.loc,I.cell,I.free,I.freeC,λp hp=>I.pin p (by simpa using hp),I.hok,I.len⟩
theorem Inv.ofTry{p2:List (8:)}(I:Inv (X.tryx pins EE) p2 σ H s):Inv X pins σ H s:=
 ⟨(5:),I.os,I.bare,I.base,I.loc,I.cell,I.free,I.freeC,λp hp=>I.pin p (List.mem_append_left _ hp),I.hok,I.len⟩
theorem Inv.ofTryP{p2:List (8:)}(I:Inv (X.tryx pins EE) p2 σ H s):Inv (X.pnd pins) p2 σ H s:=
 (95:)
theorem Inv.ofPnd{p2:List (8:)}(I:Inv (X.pnd pins) p2 σ H s):Inv X pins σ H s:=
 ⟨(5:),I.os,I.bare,I.base,I.loc,I.cell,I.free,I.freeC,λp hp=>I.pin p (List.mem_append_left _ hp),I.hok,I.len⟩
theorem Inv.toMrk(I:Inv X pins σ H s)(a:Addr)(hf:(X.A.mark (some (.ref a))).frames=X.A.frames):Inv (X.mrk a) pins σ H s:=
 ⟨⟨I.ok.mod,I.ok.kind,I.ok.glob,I.ok.blt,I.ok.above,I.ok.inj,I.ok.has,I.ok.cab,λz=>(nomatch z),hf.trans I.ok.frames,I.ok.stk,I.ok.exf,I.ok.bs,I.ok.bsz,I.ok.noex,I.ok.exfs,I.ok.funs,I.ok.frf⟩,I.os,I.bare,I.base,I.loc,I.cell,I.free,I.freeC,I.pin,I.hok,I.len⟩
theorem Inv.ofMrk(ok:X.Ok)(I:Inv (X.mrk a) pins σ H s):Inv X pins σ H s:=⟨ok,I.os,I.bare,I.base,I.loc,I.cell,I.free,I.freeC,I.pin,I.hok,I.len⟩
theorem SP.ofTry{D:Ends}{fl:Flow}{s':Shared}(h:SP (X.tryx pins EE) [] D fl s'):SP X pins D fl s':=by
 cases fl with
 | next=>obtain⟨G,H',I,q⟩:=h;exact⟨G,H',I.ofTry,q⟩
 | brk=>obtain⟨G,H',I,q⟩:=h;exact⟨G,H',I.ofTry,q⟩
 | cont=>obtain⟨G,H',I,q⟩:=h;exact⟨G,H',I.ofTry,q⟩
 | ret u=>obtain⟨v,G,H',I,r,q⟩:=h;exact⟨v,G,H',I.ofTry,r,q⟩
theorem SP.ofMrk{D:Ends}{fl:Flow}{s':Shared}(ok:X.Ok)(h:SP (X.mrk a) pins D fl s'):SP X pins D fl s':=by
 cases fl with
 | next=>obtain⟨G,H',I,q⟩:=h;exact⟨G,H',I.ofMrk ok,q⟩
 | brk=>obtain⟨G,H',I,q⟩:=h;exact⟨G,H',I.ofMrk ok,q⟩
 | cont=>obtain⟨G,H',I,q⟩:=h;exact⟨G,H',I.ofMrk ok,q⟩
 | ret u=>obtain⟨v,G,H',I,r,q⟩:=h;exact⟨v,G,H',I.ofMrk ok,r,q⟩
theorem SA:Yr (X.tryx pins EE) EE:=λp2 σ H s e s' I h=>⟨p2,σ,H,s,I.ofTryP,h⟩
def Ad(C:Addr)(tb:(St->XK)->TS)(ts:TS):TS:=λD σ H=>∃EE:St->XK,tb EE D σ H/\∀σ' cls H',EE σ' cls none H'->cls=.ref C/\ts D σ' H'
theorem Ps{x:Str}{C:Addr}{body suite:List Stmt}{b₀:Stmt}{tb:(St->XK)->TS}{ts:TS}{np hpos pos:Pos}(hm:X.mg x=some (.ref C))(hq:PySem.W.ktsIn X.K C "BaseException"=true)(hstk:X.stack=X.env::X.outer)
 (hb:∀pins EE,PSs (X.tryx pins EE) body (tb EE)) (hs:∀a,PSs (X.mrk a) (b₀::suite) ts) (hg:Gl X x:=by rfl) (hfr:X.env.frame=some X.env.locals:=by rfl) (hd:(22:)=false:=by decide):
 PS X (.Try body [.ExceptHandler (some (.Name x np)) none (b₀::suite) hpos] [] [] pos) (Ad C tb ts):=by
 intro pins s σ H D I h;obtain⟨EE,h1,h2⟩:=h;refine wpAny_Try_except (wpAny_mono (hb pins EE [] s σ H D (I.toTry EE) h1) (λfl J q=>?_) λe J q=>?_)
 .have L:=SP.ofTry q;cases fl with
  | next=>exact wpAny_execs_nil L
  | brk=>exact L
  | cont=>exact L
  | ret u=>exact L
 .obtain⟨p2,af,H1,s0,I1,a,cls,H',rfl,F,q⟩:=q;obtain⟨rfl,aj⟩:=h2 _ _ _ q;obtain⟨B,t,U,ac⟩:=F.fly;rw [hstk]at U;refine wpAny_looks_onW (by rw [<-hstk];exact I.ok.frames) hfr U λh4 Z ak=>?_;refine wpAny_landsW Z λh5 G ag=>?_;have ad:=ak.trans ag;have Y:J.heap.FunFrames B (X.pnd pins).stack:=by show J.heap.FunFrames B X.stack;rw [hstk];exact U.2.2.1
  have J5:=I1.flown F.os F.bare F.un F.hok Y ac G.1 ad;have K5:Inv X pins af H' { J with heap:=h5 }:=J5.ofPnd;obtain⟨nm,L,N',bs,bm,ao,sn,sub,ab,ap,dd,k0,k1,k2,k3,k5,an,hC,aa,aq⟩:=PySem.W.kts_cls K5.kIn hq;obtain⟨ob,al,ah⟩:=G.there;have ae:(X.A.mark (some (.ref a))).frames=X.A.frames:=rfl;refine wpAny_handleBy_cons (codeAny_handlers_test (ZP (X:=X.mrk a) (K5.toMrk a ae) hg hm ?_ hd)) (by intro q;cases q);refine wpAny_excMatches_sub_self hC al ah aa (codeAny_handlers_suite ?_);refine lands_againW G λh6 ai am=>?_;have J6:=I1.flown F.os F.bare F.un F.hok Y ac ai.1 (ad.trans am);have K6:Inv X pins af H' { J with heap:=h6 }:=J6.ofPnd;exact wpAny_mono (hs a pins _ af H' D (K6.toMrk a ae) aj) (λfl s2 q=>SP.ofMrk K6.ok q) λ_ _ z=>z.elim
end
end L2
namespace L2
open PySem PySem.Spec PyProof.Rows
def SW(te:TE):TE:=λσ H Q=>te σ H λv H1=>∃i:Int,v=.int i/\i.natAbs.log2<1920/\Q (.str (toString i)) H1
def P8(t1 t2 t3:TE):TE:=λσ H Q=>t1 σ H λv1 H1=>∃a:Str,v1=.str a/\a.length<=1000/\t2 σ H1 λv2 H2=>∃b:Str,v2=.str b/\b.length<=1000/\t3 σ H2 λv3 H3=>∃c:Str,v3=.str c/\c.length<=1000/\Q (.str (Str.empty++a++b++c)) H3
def Pt(t1 t2:TE):TE:=λσ H Q=>t1 σ H λv1 H1=>∃a:Str,v1=.str a/\a.length<=1000/\t2 σ H1 λv2 H2=>∃b:Str,v2=.str b/\b.length<=1000/\Q (.str (Str.empty++a++b)) H2
section
variable{X:Cx}{e e1 e2 e3:Expr}{te t1 t2 t3:TE}{pos:Pos}
theorem XE(he:PE X e te):PE X (.FormattedValue e (-1) none pos) (SW te):=by
 intro pins s σ H Q I h;refine PySem.wpAny_FormattedValue_plain (thn (84:) λu L ⟨x,H1,G,r,i,ex,J,q⟩=>?_);subst ex;obtain⟨t,rfl⟩:=r;exact wpAny_formatField_int J ⟨.str (toString i),H1,G.tok _,(51:),q⟩
theorem Wz(h1:PE X e1 t1)(h2:PE X e2 t2)(h3:PE X e3 t3):PE X (.JoinedStr [e1,e2,e3] pos) (P8 t1 t2 t3):=by
 intro pins s σ H Q I h;refine wpAny_JoinedStr ?_;have e0:(Str.empty).length=0:=rfl;refine thn (h1 pins s σ H _ I h) λu1 G ⟨x1,H1,J,L,a,U,la,Y⟩=>?_;subst U;obtain⟨ta,rfl⟩:=L;refine⟨a,ta,rfl,Zg (by rw [strLen_append];lia),?_⟩;refine thn (h2 pins G σ H1 _ J Y) λu2 Z ⟨x2,H2,I2,r2,b,eb,lb,q2⟩=>?_;subst eb;obtain⟨tb,rfl⟩:=r2;refine⟨b,tb,rfl,Zg (by rw [strLen_append,strLen_append];lia),?_⟩;refine thn (h3 pins Z σ H2 _ I2 q2) λu3 s3 ⟨x3,H3,I3,r3,c,ec,lc,q3⟩=>?_;subst ec;obtain⟨tc,rfl⟩:=r3;refine⟨c,tc,rfl,Zg (by rw [strLen_append,strLen_append,strLen_append];lia),Zg (by rw [strLen_append,strLen_append,strLen_append];lia),?_⟩;exact⟨.str (Str.empty++a++b++c),H3,I3.tok _,(51:),q3⟩
theorem NE(h1:PE X e1 t1)(h2:PE X e2 t2):PE X (.JoinedStr [e1,e2] pos) (Pt t1 t2):=by
 intro pins s σ H Q I h;refine wpAny_JoinedStr ?_;have e0:(Str.empty).length=0:=rfl;refine thn (h1 pins s σ H _ I h) λu1 G ⟨x1,H1,J,L,a,U,la,Y⟩=>?_;subst U;obtain⟨ta,rfl⟩:=L;refine⟨a,ta,rfl,Zg (by rw [strLen_append];lia),?_⟩;refine thn (h2 pins G σ H1 _ J Y) λu2 s2 ⟨x2,H2,Z,r2,b,eb,lb,q2⟩=>?_;subst eb;obtain⟨tb,rfl⟩:=r2;refine⟨b,tb,rfl,Zg (by rw [strLen_append,strLen_append];lia),Zg (by rw [strLen_append,strLen_append];lia),?_⟩;exact⟨.str (Str.empty++a++b),H2,Z.tok _,(51:),q2⟩
end
end L2
namespace L2
open PySem PySem.Spec PyProof.Rows
def Wr(h:Heap)(H:Hp)(l:List Addr):Heap:=PySem.W.hideAll h (trk h H++l)
theorem GE(h:Heap)(H:Hp)(l:List Addr):(Wr h H l).objs.size=h.objs.size:=PySem.W.hideAll_size _ _
theorem WV{h:Heap}{H:Hp}{l:List Addr}{b:Addr}{o:Obj}(e:h.get? b=some o)(n:H b=none)(m:b∉l):(Wr h H l).get? b=some o:=
 PySem.W.hideAll_get _ e λhm=>by
  rcases List.mem_append.mp hm with hm | hm
  .have q:(H b).isSome=true:=(List.mem_filter.mp hm).2;rw [n]at q;simp at q
  .exact m hm
theorem XF{h:Heap}{H:Hp}{l:List Addr}{b:Addr}{o:Obj}(e:(Wr h H l).get? b=some o):h.get? b=some o/\H b=none/\b∉l:=by
 have G:h.get? b=some o:=PySem.W.of_hideAll (trk h H++l) e;have J:∀m:b∈trk h H++l,False:=λm=>by
  have z:(Wr h H l).get? b=none:=PySem.W.hideAll_none (trk h H++l) m;rw [z]at e;cases e
 refine⟨G,?_,λm=>J (List.mem_append_right _ m)⟩;cases q:H b with
 | none=>rfl
 | some x=>exact(J (List.mem_append_left _ (List.mem_filter.mpr ⟨List.mem_range.mpr (Heap.lt_size G),by simp [q]⟩))).elim
def Sub(g h:Heap):Prop:=∀b o,g.get? b=some o->h.get? b=some o
theorem Mod.sub{K:Fg}{mg:Str->Option Value}{g h:Heap}(s:Sub g h)(m:Mod K mg g):Mod K mg h:=
 ⟨m.kin.keeps s,m.glob.keeps s,let⟨G,J,q⟩:=m.blt;⟨G,J.keeps s,q⟩,m.nolimit.keeps s⟩
theorem V1{h g base:Heap}:∀{l:List Env},h.FunFrames base l->(∀b∈frs l,g.get? b=none)->h.FunFrames g l
 | [],_,_=>trivial
 | env::rest,hf,hn=>by
  obtain⟨h1,⟨L,o,e1,e2,e3,e4⟩,r⟩:=hf;refine⟨h1,⟨L,o,e1,hn L ?_,e3,e4⟩,V1 r λb G=>hn b ?_⟩
  .exact List.mem_filterMap.mpr ⟨env,List.mem_cons_self,e1⟩
  .obtain⟨e,J,q⟩:=List.mem_filterMap.mp G;exact List.mem_filterMap.mpr ⟨e,List.mem_cons_of_mem _ J,q⟩
theorem Env0.sub{P:Program}{w:World}{K:Fg}{mg:Str->Option Value}{base:Heap}{A:Around}{outer:List Env}{s:Shared}{H:Hp}(e:Env0 P w K mg base A outer s H):Sub base (Wr s.heap H (frs outer)):=λb o h=>
 WV (e.bs b o h).1 (e.bs b o h).2 λm=>by
  have:=(e.funs.mem m).1;rw [h]at this;cases this
theorem Env0.big{P:Program}{w:World}{K:Fg}{mg:Str->Option Value}{base:Heap}{A:Around}{outer:List Env}{s:Shared}{H:Hp}(e:Env0 P w K mg base A outer s H):Env0 P w K mg (Wr s.heap H (frs outer)) A outer s H:=
 ⟨e.frames,e.mod.sub e.sub,λb o h=>⟨(XF h).1,(XF h).2.1⟩,Nat.le_of_eq (GE _ _ _),V1 e.funs λb G=>by
  cases q:(Wr s.heap H (frs outer)).get? b with
  | none=>rfl
  | some o=>exact absurd G (XF q).2.2,e.frf,e.hok,e.bare⟩
def LM(X:Cx)(σ:St)(g:Heap):Prop:=∀(i:Nat)(x:Str)(v:V),X.N[i]?=some x->σ[i]?=some (some v)->X.env.scope.names.lookup x=some .cell->∃c u,X.env.cells.lookup x=some c/\g.IsCell c (some u)/\RelV v u
section
variable{X:Cx}{pins:List (8:)}{σ:St}{H:Hp}{s:Shared}
theorem Inv.cells(I:Inv X pins σ H s)(hfn:∀x,X.fn x=true):LM X σ (Wr s.heap H (frs X.stack)):=by
 intro i x v h1 h2 Y;obtain⟨m,Z,hl⟩:=I.loc;obtain⟨u,rv,lk⟩:=hl i x v h1 h2 (.inr (.inl Y));rcases lk with⟨k,_⟩ | ⟨_,c,J,ic⟩
 .have k':X.env.scope.names.lookup x=some .local:=k;rw [Y]at k';cases k'
 refine⟨c,u,J,?_,rv⟩;obtain⟨o,L,r⟩:=ic;refine⟨o,WV L (I.freeC x c J) (λm=>?_),r⟩;have G:=I.ok.cab x c (hfn x) J;have lt:∀b∈frs X.outer,b<X.s₀.heap.objs.size:=λb hb=>by
  obtain⟨_,o',aa,_⟩:=I.ok.funs.mem hb;exact Heap.lt_size aa
 rcases I.ok.stk with e | ⟨e,e2⟩
 .rw [e]at m;exact absurd (lt c m) (Nat.not_lt.mpr G)
 .rw [e]at m;rcases List.mem_filterMap.mp m with⟨env,he,U⟩;rcases List.mem_cons.mp he with rfl | he
  .rw [e2]at U;obtain rfl:=Option.some.inj U;obtain⟨o2,es,ep,h5,h6,_⟩:=Z;rw [h5]at L;obtain rfl:=Option.some.inj L;rw [h6]at r;cases r
  .exact absurd (lt c (List.mem_filterMap.mpr ⟨env,he,U⟩)) (Nat.not_lt.mpr G)
end
abbrev Y6(qual:Str)(e:Expr)(cl:List (38:))(pm:Value)(c:Addr)(ctv:Value):FuncData:=PySem.W.kla_fn "<lambda>" qual (Oo e) (V4 e) (Qu e) cl pm (.ref c) ctv
structure LamAtC(H:Hp)(f:Addr)(e:Expr)(cl:List (38:)):Prop where
 ex:∃qual pm c ctv,H f=some (GB f (Y6 qual e cl pm c ctv))/\H c=some (No c qual)
theorem LamAtC.same{H H':Hp}{f:Addr}{e:Expr}{cl:List (38:)}(g:Same H H')(h:LamAtC H f e cl):LamAtC H' f e cl:=by
 obtain⟨q,J,c,G,h1,h2⟩:=h.ex;exact⟨q,J,c,G,g _ _ h1,g _ _ h2⟩
def SS(T:Addr)(qual:Str)(e:Expr)(cl:List (38:)):TE:=λσ H Q=>TbS H T (Vg e) qual/\∀f H',SameX T H H'->H f=none->LamAtC H' f e cl->TbS H' T (Vg e) qual->Q (82:) H'
section
variable{X:Cx}
theorem Ol{cl:List (38:)}{a:Arguments}{b:Expr}{sc:Scope}{pos:Pos}{c T:Addr}(hcode:X.env.code=.ref c)(hC:PySem.W.codeHdIn X.K c T=true)(hB:XZ X.mg X.base)(hcl:closureFor sc X.env=pure cl:=by rfl)(hdef:defaultsOf a X.env=([],[]):=by rfl):
 PE X (.Lambda a b sc pos) (SS T (X.env.qual++"<lambda>") (.Lambda a b sc pos) cl):=by
 intro pins s σ H Q I h;obtain⟨ht,q⟩:=h;obtain⟨aw,hT⟩:=ht.at;obtain⟨bm,ob,b1,b2,b3,b4,b5,b6,b7⟩:=hB;have am:bm≠T:=λz=>by have:=(I.bs _ _ b4).2;rw [z,hT]at this;cases this
 have hg:s.heap.Ns mainGlobals X.mg:=I.mod.glob.keeps I.bk;have an:mainGlobals≠T:=λz=>by
  obtain⟨o,es,ep,e,_⟩:=I.mod.glob;have:=(I.bs _ _ e).2;rw [z,hT]at this;cases this
 have hb:s.heap.BuiltinsAt X.mg T:=⟨bm,ob,b1,b2,b3,am,I.bk _ _ b4,b5,b6,b7⟩;have ag:PySem.W.CodeHd s.heap c T:=PySem.W.codeHd_of_K I.kIn hC;have ao:X.env.locals≠T:=λz=>by have:=I.free;rw [z,hT]at this;cases this
 refine PySem.W.kla_eval hdef ?_;rcases ht with Y | ⟨G,Y,ah⟩
 .have hP:s.heap.get? T=some (PySem.W.tabObj #[]):=I.hok T _ Y;refine PySem.W.kla_makeFunction (mg:=X.mg) hcl I.ok.glob hg hcode ag hP trivial rfl an hb λG Z h' tk hx ab ad ae ap=>?_;obtain⟨qual,U⟩: ∃qual,qual=X.env.qual++"<lambda>":=(51:);rw [<-U]at ae ⊢;have ai:H G=none:=I.hok.fresh ab;have aa:H h'.objs.size=none:=I.hok.fresh (Nat.le_of_lt (Nat.lt_of_le_of_lt ab ad));have aq:T≠G:=Qd Y ai;have ar:T≠h'.objs.size:=Qd Y aa;have as:G≠h'.objs.size:=Nat.ne_of_lt ad;obtain⟨fd,aj⟩: ∃fd:FuncData,fd=Y6 qual (.Lambda a b sc pos) cl ((X.mg "__name__").getD .none) G Z:=(51:);have au:PySem.W.kla_obj "<lambda>" qual a b sc cl ((X.mg "__name__").getD .none) G Z={ cls:=.type "function",data:=.func fd }:=by rw [aj];rfl
  rw [au];obtain⟨ps,ak⟩: ∃ps:Array Value,ps=#[rawInt pos.line,rawInt pos.col,.ref G]:=(51:);have af:h'.get? T=some { cls:=.none,data:=.fields ps }:=by rw [ak];exact ap
  obtain⟨H',ac⟩: ∃H':Hp,H'=upd (upd (upd H T (.tbl ps)) G (No G qual)) h'.objs.size (GB h'.objs.size fd):=(51:);have eF:H' h'.objs.size=some (GB h'.objs.size fd):=by rw [ac];exact Qb
  have eC:H' G=some (No G qual):=by rw [ac,Qg as];exact Qb
  have eT:H' T=some (.tbl ps):=by rw [ac,Qg ar,Qg aq];exact Qb
  have eO:∀x,x≠T->x≠G->x≠h'.objs.size->H' x=H x:=λx n1 n2 n3=>by rw [ac,Qg n3,Qg n2,Qg n1]
  have eK:∀x u,H x=some u->x≠T->H' x=some u:=λx u e n1=>by rw [eO x n1 (Qd e ai) (Qd e aa)];exact e
  have L:∀x o,h'.get? x=some o->(h'.push { cls:=.type "function",data:=.func fd }).get? x=some o:=λx o e=>Heap.get?_push_of_some _ e;have J:Inv X pins σ H' { s with heap:=h'.push { cls:=.type "function",data:=.func fd },toks:=tk }:=by
   refine I.step (g':=s.gens) (d':=s.drawn) (ch:=[]) (λ_ z=>nomatch z) (λx o _ _ _ e n=>?_) (λx o _ _ _ e n=>?_) (λx o _ e n=>?_) (λx o _ e=>?_) (λx xs e=>?_) (λx o u e=>?_) (λx qs e=>?_) (λm hn=>?_) (λx o e=>?_) I.bare
   .exact L _ _ (hx _ _ (λz=>by rw [z,hT]at n;cases n) e)
   .exact⟨o.slots,L _ _ (hx _ _ (λz=>by rw [z,hT]at n;cases n) e)⟩
   .have lx:=Heap.lt_size e;rw [eO x (λz=>by rw [z,hT]at n;cases n) (Nat.ne_of_lt (Nat.lt_of_lt_of_le lx ab)) (Nat.ne_of_lt (Nat.lt_trans (Nat.lt_of_lt_of_le lx ab) ad))];exact n
   .by_cases z:x=T
    .exact⟨_,L _ _ (z ▸ af)⟩
    .exact⟨o,L _ _ (hx _ _ z e)⟩
   .exact eK x _ e (ne_of e Y (10:))
   .exact eK x _ e (ne_of e Y (10:))
   .by_cases z:x=T
    .subst z;rw [Y]at e;cases e;exact⟨ps,by rw [eT];simp⟩
    .exact⟨#[],by rw [eK x _ e z];simp⟩
   .exact(hn.extBut hx ao).push _
   .by_cases z1:x=h'.objs.size
    .subst z1;rw [eF]at e;cases e;exact VR (Heap.get?_push_size _ rfl)
    by_cases z2:x=G
    .subst z2;rw [eC]at e;cases e;refine OJ ?_;obtain⟨c2,oc,vs,tq,z,av,r⟩:=ae;exact⟨c2,oc,vs,tq,z,L _ _ av,r⟩
    by_cases z3:x=T
    .subst z3;rw [eT]at e;cases e;exact L _ _ af
    rw [eO x z3 z2 z1]at e;refine(I.hok x o e).stay (λy u hy r=>?_) (λy r=>?_) λy xs r=>?_
    .refine L _ _ (hx _ _ (λz=>?_) r);rcases hy with hy | hy
     .exact z3 (hy.symm.trans z)
     .rw [z,hT]at hy;cases hy
    .exact eK y _ r (ne_of r Y (10:))
    .exact eK y _ r (ne_of r Y (10:))
  refine⟨.ref h'.objs.size,H',J,rfl,q h'.objs.size H' (λx u n e=>eK x u e n) aa ⟨qual,_,G,Z,by rw [eF,aj],eC⟩ ?_⟩;refine .inr ⟨G,?_,by rw [<-U];exact eC⟩;rw [eT,ak];rfl
 .have hP:s.heap.get? T=some (PySem.W.tabObj #[rawInt pos.line,rawInt pos.col,.ref G]):=I.hok T _ Y;have hf:codeAmong pos (#[rawInt pos.line,rawInt pos.col,Value.ref G]:Array Value).toList=some (.ref G):=by
   show(if((pos.line:Int)==(pos.line:Int)&&(pos.col:Int)==(pos.col:Int))=true then some (Value.ref G)else _)=_;simp
  refine PySem.W.kla_makeFunctionHit (mg:=X.mg) hcl I.ok.glob hg hcode ag hP trivial hf hb λZ h' tk hk al=>?_;obtain⟨qual,U⟩: ∃qual,qual=X.env.qual++"<lambda>":=(51:);rw [<-U];have aa:H h'.objs.size=none:=I.hok.fresh al;refine⟨.ref h'.objs.size,upd H h'.objs.size (GB h'.objs.size (Y6 qual (.Lambda a b sc pos) cl ((X.mg "__name__").getD .none) G Z)),I.laid (t':=tk) (λx o e=>Heap.get?_push_of_some _ (hk _ _ e)) al (VR (Heap.get?_push_size _ rfl)),rfl,?_⟩;have g:=Qc aa (GB h'.objs.size (Y6 qual (.Lambda a b sc pos) cl ((X.mg "__name__").getD .none) G Z));refine q h'.objs.size _ (SameX.of g) aa ⟨qual,_,G,Z,Qb,g _ _ (by rw [U];exact ah)⟩ (.inr ⟨G,g _ _ Y,g _ _ ah⟩)
end
end L2
namespace L2
open PySem PySem.Spec PyProof.Rows
abbrev Wf(qual:Str)(scope:Scope)(cl:List (38:))(L f:Addr)(cd:Value):Env:=newEnv scope L mainGlobals cl (qual++Str.ofString ".<locals>.") (some f) cd none builtinsNs
def cxL(CX:CXT)(P:Program)(w:World)(K:Fg)(mg:Str->Option Value)(base:Heap)(N:List Str)(qual:Str)(scope:Scope)(cl:List (38:))(f:Addr)(cd:Value)(A:Around)(outer:List Env)(s:Shared)(H:Hp)(E:XK):Cx:=
 { prog:=P,w:=w,K:=K,mg:=mg,base:=base,A:=A.deeper (97:),N:=N,s₀:=s,H₀:=H,env:=Wf qual scope cl s.heap.objs.size f cd,outer:=outer,stack:=Wf qual scope cl s.heap.objs.size f cd::outer,ex:=[],fn:=λ_=>false,calm:=true,pn:=[],xe:=λe s'=>wpAny (model P w) (A.deeper (97:)) (leaving (97:) e) (λ_ s''=>CX outer H s E e s'') (λe' s''=>CX outer H s E e' s'') s' }
structure ClAt(base:Heap)(N:List Str)(cl:List (38:))(vs:List V):Prop where
 len:vs.length=N.length
 val:∀(i:Nat)(x:Str)(v:V),N[i]?=some x->vs[i]?=some v->∃c u,cl.lookup x=some c/\base.IsCell c (some u)/\RelV v u
 cel:∀x c,cl.lookup x=some c->∃u,base.IsCell c u
 inj:∀x y c,cl.lookup x=some c->cl.lookup y=some c->x=y
theorem ClAt.two{base:Heap}{x1 x2:Str}{c1 c2:Addr}{v1 v2:V}{u1 u2:Value}(hx:x1≠x2)(hc:c1≠c2)(h1:base.IsCell c1 (some u1))(h2:base.IsCell c2 (some u2))(r1:RelV v1 u1)(r2:RelV v2 u2):ClAt base [x1,x2] [(x2,c2),(x1,c1)] [v1,v2]:=by
 have G:List.lookup x1 [(x2,c2),(x1,c1)]=some c1:=by
  rw [List.lookup_cons];have:(x1==x2)=false:=by simpa using hx
  rw [this];simp [List.lookup]
 have J:List.lookup x2 [(x2,c2),(x1,c1)]=some c2:=by simp [List.lookup]
 have any:∀x c,List.lookup x [(x2,c2),(x1,c1)]=some c->(x=x2/\c=c2)\/(x=x1/\c=c1):=λx c h=>by
  by_cases e2:x=x2
  .subst e2;rw [J]at h;exact .inl ⟨rfl,(Option.some.inj h).symm⟩
  by_cases e1:x=x1
  .subst e1;rw [G]at h;exact .inr ⟨rfl,(Option.some.inj h).symm⟩
  .have a:(x==x2)=false:=by simpa using e2
   have b:(x==x1)=false:=by simpa using e1
   simp [List.lookup,a,b]at h
 refine⟨rfl,λi x v e1 e2=>?_,λx c h=>?_,λx y c a b=>?_⟩
 .match i,e1,e2 with
  | 0,e1,e2=>cases e1;cases e2;exact⟨c1,u1,G,h1,r1⟩
  | 1,e1,e2=>cases e1;cases e2;exact⟨c2,u2,J,h2,r2⟩
  | i+2,e1,e2=>cases e1
 .rcases any x c h with⟨_,rfl⟩ | ⟨_,rfl⟩
  .exact⟨_,h2⟩
  .exact⟨_,h1⟩
 .rcases any x c a with⟨rfl,rfl⟩ | ⟨rfl,rfl⟩<;>rcases any y c b with⟨rfl,e⟩ | ⟨rfl,e⟩
  .rfl
  .exact absurd e.symm hc
  .exact absurd e hc
  .rfl
section
variable{X:Cx}
end
end L2
namespace L2
open PySem PySem.Spec PyProof.Rows
section
variable{X:Cx}
end
end L2
namespace K3
def ZB:List Nat:=[97,98,99,100,101,102,103,104,105,106,107,108,109,110,111,112,113,114,115,116,117,118,119,120,121,122]
def run(L:List Nat)(t:List Nat):List Nat:=t.takeWhile λc=>decide (c∈L)
def D(n:Nat):List Nat:=(Nat.toDigits 10 n).map Char.toNat
end K3
namespace K3
end K3
namespace L2
open PySem PySem.Spec PyProof.Rows
section
variable{X:Cx}{C:Addr}{k k':Nat}{m:Str}{ps:List Str}{sp:Sp}{o e:Expr}{es:List Expr}{ta:TE}{t:TA}{apos pos:Pos}
end
end L2
namespace K3
open PySem L2
def sh(m:Int):List Nat:=if m<0 then 45::D m.natAbs else D m.natAbs
end K3
namespace L2
open PySem PySem.Spec PyProof.Rows
structure MtX(P:Program)(w:World)(K:Fg)(mg:Str->Option Value)(base:Heap)(C:Addr)(k:Nat)(m:Str)(ps:List Str)(sp:Sp):Prop where
 ex:∃f fd,Meth K C m f/\FnOk P w K mg base (CX1 P w) k f fd ps sp/\Binds K fd ps []
section
variable{X:Cx}
theorem ON{f:Addr}{fd:FuncData}{k:Nat}{ps:List Str}{sp:Heap->Sp}{EE:St->XK}{pins:List (8:)}{σ:St}{H:Hp}{s:Shared}{Q:VK}{us:List Value}{vs:List V}(F:∀g:Heap,Sub X.base g->FnOk X.prog X.w X.K X.mg g (CX1 X.prog X.w) k f fd ps (sp g))(hr:Room k X.A)(hb:Binds X.K fd ps [])(hx:Yr X EE)(hfn:∀x,X.fn x=true)
 (I:Inv X pins σ H s) (r:Vals vs us) (h:∀g:Heap,Sub X.base g->LM X σ g->sp g vs H Q (EE σ)):wpAny (3:) X.A (call (82:) us) (74:) X.xe s:=by
 have h':=h _ I.env0.sub (I.cells hfn);have L:us.length=ps.length:=by rw [<-r.length];exact(F _ I.env0.sub).len _ _ _ _ h'
 have J:=hb s us I.kIn (by rw [List.append_nil];exact L);rw [List.append_nil]at J;refine wpAny_call (codeAny_mono ((F _ I.env0.sub).run X.A X.stack s H ⟨us,[]⟩ us vs Q (EE σ) hr I.env0.big J r h') λr s' G=>?_);cases r with
 | error e=>exact hx pins σ H s e s' I G
 | ok U=>
  cases U with
  | ret u=>exact I.after G
  | next=>exact False.elim G
  | brk=>exact False.elim G
  | cont=>exact False.elim G
theorem LV{f:Addr}{fd:FuncData}{k:Nat}{ps:List Str}{sp:Sp}{EE:St->XK}{pins:List (8:)}{σ:St}{H:Hp}{s:Shared}{Q:VK}{us:List Value}{vs:List V}(F:FnOk X.prog X.w X.K X.mg X.base (CX1 X.prog X.w) k f fd ps sp)(hr:Room k X.A)(hb:Binds X.K fd ps [])(hx:Yr X EE)
 (I:Inv X pins σ H s) (r:Vals vs us) (h:sp vs H Q (EE σ)):wpAny (3:) X.A (call (82:) us) (74:) X.xe s:=by
 have L:us.length=ps.length:=by rw [<-r.length];exact F.len _ _ _ _ h
 have J:=hb s us I.kIn (by rw [List.append_nil];exact L);rw [List.append_nil]at J;refine wpAny_call (codeAny_mono (F.run X.A X.stack s H ⟨us,[]⟩ us vs Q (EE σ) hr I.env0 J r h) λr s' G=>?_);cases r with
 | error e=>exact hx pins σ H s e s' I G
 | ok U=>
  cases U with
  | ret u=>exact I.after G
  | next=>exact False.elim G
  | brk=>exact False.elim G
  | cont=>exact False.elim G
def R0(C:Addr)(m:Str)(sp:Sp)(EE:St->XK)(ta:TE)(t:TA):TE:=λσ H Q=>ta σ H λx H1=>∃a dx fs,x=.ref a/\H1 a=some (.ins C dx fs)/\fs.lookup m=none/\t σ H1 λvs H2=>sp (.ref a::vs) H2 Q (EE σ)
section
variable{C:Addr}{k k':Nat}{m:Str}{ps:List Str}{sp:Sp}{o e:Expr}{es:List Expr}{ta:TE}{t:TA}{apos pos:Pos}{EE:St->XK}
theorem YB{pl:Sem Bool}(M:MtX X.prog X.w X.K X.mg X.base C k m ps sp)(c:Cls X.K C)(hr:Room k' X.A)(hx:Yr X EE)(he:PE X o ta)(ha:PA X (e::es) t)(hk:k<=k':=by decide)
 (hst:starEach (e::es) X.env=(46:)::starEach es X.env:=by rfl) (hpl:(39:).any (·.1)=false:=by rfl)
 (ht:eval (.Call (.Attribute o m apos) (e::es) [] pos) X.env=(do
  let ov <-eval o X.env
  standAt apos.atName
  let(f,first) <-holding [ov] (getMethod ov m pl)
  callWith pos f first (backTo pos (starEach (e::es) X.env)) (backToKw pos (keywordEach [] X.env))):=by rfl):
 PE X (.Call (.Attribute o m apos) (e::es) [] pos) (R0 C m sp EE ta t):=by
 obtain⟨f,fd,h1,h2,L⟩:=M.ex;intro pins s σ H Q I h;refine PySem.W.methodCall_KW (pl:=pl) (thn (84:) λu U ⟨x,H1,G,Y,a,dx,fs,ex,Z,l,q⟩=>?_) ht;subst ex;obtain rfl:u=Value.ref a:=Y;refine Jk G Z c h1 l ?_;refine PySem.W.callWith_K (first:=[.ref a]) (h₀:=X.base) I.ok.mod.kin h1.kp (thn (ha pos pins U σ H1 _ G q) λus s2 ⟨vs,H2,J,r,q2⟩=>⟨J.kIn,?_⟩) hst hpl;exact LV (us:=.ref a::us) (vs:=.ref a::vs) h2 (hr.mono hk) L hx J (.cons rfl r) q2
end
end
theorem SG{P:Program}{w:World}{K:Fg}{mg:Str->Option Value}{base:Heap}{N:List Str}{qual:Str}{scope:Scope}{cl:List (38:)}{f:Addr}{cd:Value}{A:Around}{outer:List Env}{s:Shared}{H:Hp}{E:XK}:Yr (cxL (CX1 P w) P w K mg base N qual scope cl f cd A outer s H E) (λ_=>E):=by
 intro pins σ H1 Y e s' I h;obtain⟨a,cls,H',rfl,F,q⟩:=h;obtain⟨B,t,L,U⟩:=F.fly;show wpAny (model P w) (A.deeper (97:)) (leaving (97:) (.ref a)) _ _ s';refine wpAny_leaves_onW I.ok.frames rfl L λh2 G up=>?_;have J:=I.flown F.os F.bare F.un F.hok L.2.2.1 U G.1 up;exact⟨a,cls,H',rfl,⟨J.os,J.bare,J.base,J.hok,B,t,G,Cov.out I rfl rfl rfl F.un F.hok U G.1⟩,q⟩
section
variable{X:Cx}
end
end L2
namespace L2
open PySem PySem.Spec PyProof.Rows
def Lx(P:Program)(w:World)(K:Fg)(mg:Str->Option Value)(base:Heap)(k:Nat)(e:Expr)(cl:List (38:))(sp:Sp):Prop:=
 ∀(f:Addr)(A:Around)(outer:List Env)(s:Shared)(H:Hp)(us:List Value)(vs:List V)(Q:VK)(E:XK),Room k A->Env0 P w K mg base A outer s H->LamAtC H f e cl->Vals vs us->sp vs H Q E->
  codeAny (model P w) A (.call (82:) ⟨us,[]⟩) (CR (CX1 P w) outer P w H s Q E) s
theorem Lb{P:Program}{w:World}{K:Fg}{mg:Str->Option Value}{base:Heap}{k:Nat}{e:Expr}{cl:List (38:)}{N:List Str}{vs:List V}{sp:Sp}{x:Str}(hk:(Qu e).kind=ScopeKind.function)(hco:(Qu e).isCoroutine=false)(hge:(Qu e).isGenerator=false)(hfree:∀y∈(Qu e).names,y.2≠NameKind.cell)
 (hloc:∀y,(Qu e).names.lookup y=some .local->y=x) (hx:(Qu e).names.lookup x=some .local) (hxN:x∉N)
 (hN:∀x,(Qu e).names.lookup x=some .free->∃c,cl.lookup x=some c) (hC:ClAt base N cl vs) (len:∀vs H Q E,sp vs H Q E->vs.length=1)
 (hbind:∀(qual:Str)(pm:Value)(c:Addr)(ctv u:Value),bindArgs (Y6 qual e cl pm c ctv) ⟨[u],[]⟩=pure [(x,u)])
 (hbody:∀(qual:Str)(f c:Addr)(A:Around)(outer:List Env)(s:Shared)(H:Hp)(v:V)(Q:VK)(E:XK),Room k (A.deeper (Wf qual (Qu e) cl s.heap.objs.size f (.ref c)))->sp [v] H Q E->
  ∃t,PE (91:) (V4 e) t/\t (some v::vs.map some) H Q):Lx P w K mg base (k+1) e cl sp:=by
 intro f A outer s H us ws Q E hr G hL r aa;obtain⟨qual,pm,c,ctv,hf,hc⟩:=hL.ex;obtain⟨v,rfl⟩: ∃v,ws=[v]:=List.length_eq_one_iff.mp (len _ _ _ _ aa);obtain⟨u,rfl,rv⟩:=r.one;have ac:s.heap.get? f=some { cls:=.type "function",data:=.func (Y6 qual e cl pm c ctv) }:=(G.hok f _ hf).1;have ab:s.heap.CodeRec (.ref c) qual:=(G.hok c _ hc).1;have ad:s.heap.NoLimit:=G.mod.nolimit.keeps λb o e=>(G.bs b o e).1;refine PySem.W.kla_callFunE hr.depth ac rfl hco hge rfl ab ?_;rw [hbind qual pm c ctv u];refine wpAny_pure ?_;refine wpAny_newFunctionEnv hfree (λy hy=>by
  have ey:y=(x,u):=by simpa using hy
  rw [ey];exact hx) (λh1 ae af=>?_) hk
 have keep:∀b o,s.heap.get? b=some o->h1.get? b=some o:=λb o e=>(af.2 b (Nat.ne_of_lt (69:))).trans (Heap.get?_push_of_some _ e);refine⟨ad.keeps keep,PySem.W.kla_codeExpr ?_⟩;obtain⟨t,ht,hq⟩:=hbody qual f c A outer s H v Q E (hr.deeper _) aa;have U:∀{x:Str}{L:Addr}{u:Option Value},base.IsCell L u->h1.IsCell L u/\H L=none/\L<s.heap.objs.size:=λ{x L u} ⟨o,ho,r⟩=>⟨⟨o,keep _ _ (G.bs _ _ ho).1,r⟩,(G.bs _ _ ho).2,Heap.lt_size (G.bs _ _ ho).1⟩;have Y:∀b:Addr,b∉(91:).ex:=λb z=>absurd (show b∈([]:List Addr)from z) (21:);have I:Inv (91:) [] (some v::vs.map some) H { s with heap:=h1,toks:=s.toks+1 }:=by
  refine⟨⟨G.mod,hk,rfl,rfl,Nat.le_refl _,λy z L h1 h2=>hC.inj y z L h1 h2,λy hy=>?_,λy L h _=>?_,λ_=>hr.hd,Around.frames_deeper G.frames,.inr ⟨rfl,rfl⟩,λb z=>absurd z (Y b),G.bs,G.bsz,λb _ _=>Y b,λb z=>absurd z (Y b),G.funs,G.frf⟩,rfl,G.bare,Un.kept keep,⟨_,ae,λi y Z h1 h2 h3=>?_⟩,λy L h=>?_,G.hok.fresh (7:),λy L h=>?_,λp hp=>absurd (show p∈([]:List (8:))from hp) (21:),G.hok.kept keep,?_⟩
  .have hy:(Qu e).names.lookup y=some .cell\/(Qu e).names.lookup y=some .free:=hy;rcases hy with hy | hy
   .exact absurd rfl (hfree _ (PySem.mem_of_lookup hy))
   .exact hN y hy
  .cases h
  .cases i with
   | zero=>
    have h1:(x::N)[0]?=some y:=h1;have ey:x=y:=by simpa using h1
    have ev:v=Z:=by simpa using h2
    subst ey;rw [<-ev];exact⟨u,rv,.inl ⟨hx,by simp [List.lookup]⟩⟩
   | succ i=>
    have h1:(x::N)[i+1]?=some y:=h1;have h1:N[i]?=some y:=by simpa using h1
    have hv:vs[i]?=some Z:=by
     have h2:(vs.map some)[i]?=some (some Z):=by simpa using h2
     rw [List.getElem?_map]at h2;cases q:vs[i]? with
     | none=>rw [q]at h2;cases h2
     | some a=>rw [q]at h2;cases h2;rfl
    obtain⟨L,u,e1,e2,e3⟩:=hC.val i y Z h1 hv;have h3:(Qu e).names.lookup y=some .local\/(Qu e).names.lookup y=some .cell\/(Qu e).names.lookup y=some .free:=h3;rcases h3 with k | k | k
    .exact absurd (List.mem_of_getElem? h1) (by rw [hloc y k];exact hxN)
    .exact absurd rfl (hfree _ (PySem.mem_of_lookup k))
    .exact⟨u,e3,.inr ⟨.inr k,L,e1,(U (x:=y) e2).1⟩⟩
  .obtain⟨u,hu⟩:=hC.cel y L h;exact⟨u,(U (x:=y) hu).1⟩
  .obtain⟨u,hu⟩:=hC.cel y L h;exact(U (x:=y) hu).2.1
  .rw [List.length_cons,List.length_map,hC.len];rfl
 refine wpAny_mono (ht [] _ (some v::vs.map some) H _ I hq) (λu s' hs=>?_) λe s' hs=>hs;obtain⟨v,H',J,rv,q⟩:=hs;exact⟨v,H',J.os,J.bare,J.base,J.hok,rv,q⟩
def OH(i:Nat)(e:Expr)(cl:List (38:))(sp:Sp)(EE:St->XK)(t:TA):TE:=λσ H Q=>∃f,σ[i]?=some (some (82:))/\t σ H λvs H1=>LamAtC H1 f e cl/\sp vs H1 Q (EE σ)
section
variable{X:Cx}
theorem GK{i:Nat}{x:Str}{e a:Expr}{cl:List (38:)}{as:List Expr}{t:TA}{sp:Sp}{k:Nat}{p pos:Pos}{EE:St->XK}(C:Lx X.prog X.w X.K X.mg X.base k e cl sp)(hr:Room k X.A)(hx:Yr X EE)(ha:PA X (a::as) t)(hN:X.N[i]?=some x:=by rfl)(hv:Vis X.env.scope x:=by first | exact Or.inl rfl | exact Or.inr (32:) | exact Or.inr (Or.inr rfl))
 (hd:(22:)=false:=by decide) (hcd:(x==("__classdict__":Str))=false:=by decide) (he:starEach (a::as) X.env=(false,eval a X.env)::starEach as X.env:=by rfl) (hpl:(backTo pos (starEach as X.env)).any (·.1)=false:=by rfl):
 PE X (.Call (.Name x p) (a::as) [] pos) (OH i e cl sp EE t):=by
 intro pins s σ H Q I h;obtain⟨f,hs,h⟩:=h;refine wpAny_Call_Name_kw (thn (Vk (pos:=p) hN hv hd hcd pins s σ H (λv H1=>v=.ref f/\H1=H) I ⟨.ref f,hs,rfl,rfl⟩) λu U ⟨v,H1,I1,r1,ev,eH⟩=>?_);subst ev eH;obtain rfl:u=Value.ref f:=r1;have Y:wpAny (3:) X.A (spliced (backTo pos (starEach (a::as) X.env))) (λvs Z=>(∃fd,Z.heap.get? f=some { cls:=.type "function",data:=.func fd })/\wpAny (3:) X.A (call (82:) ([]++vs)) (74:) X.xe Z) X.xe U:=by
  refine thn (ha pos pins U σ H1 _ I1 h) λus s2 ⟨vs,H2,J,r2,hL,q2⟩=>⟨?_,?_⟩
  .obtain⟨qual,pm,c,aa,L,hc⟩:=hL.ex;exact⟨_,(J.hok f _ L).1⟩
  .refine wpAny_call (codeAny_mono (C f X.A X.stack s2 H2 us vs Q (EE σ) hr J.env0 hL r2 q2) λr s' G=>?_);cases r with
   | error e=>exact hx pins σ H2 s2 e s' J G
   | ok fl=>
    cases fl with
    | ret u=>exact J.after G
    | next=>exact False.elim G
    | brk=>exact False.elim G
    | cont=>exact False.elim G
 rw [he]at Y ⊢;exact PySem.W.callWith_of (P:=λh=>∃fd,h.get? f=some { cls:=.type "function",data:=.func fd }) (by show((false||(backTo pos (starEach as X.env)).any (·.1))||false)=false;rw [hpl];rfl)
  (λh ⟨fd,L⟩=>⟨.frame,.inl rfl,(PySem.W.Looks.ld (part:=none) L).andThen .now⟩) (PySem.Calls.evalArgs_plain Y)
def N9(X:Cx)(sp:Heap->Sp)(EE:St->XK)(t:TA):TE:=λσ H Q=>t σ H λvs H2=>∀g:Heap,Sub X.base g->LM X σ g->sp g vs H2 Q (EE σ)
theorem Ov{x:Str}{p pos:Pos}{e:Expr}{es:List Expr}{f:Addr}{fd:FuncData}{k:Nat}{ps:List Str}{sp:Heap->Sp}{t:TA}{EE:St->XK}(F:∀g:Heap,Sub X.base g->FnOk X.prog X.w X.K X.mg g (CX1 X.prog X.w) k f fd ps (sp g))(hr:Room k X.A)(hm:X.mg x=some (82:))(hk:PySem.W.keepIn X.K (82:)=true)(hb:Binds X.K fd ps [])(hx:Yr X EE)(hfn:∀x,X.fn x=true)(ha:PA X (e::es) t)(hg:Gl X x:=by rfl)
 (hdb:(22:)=false:=by decide) (he:starEach (e::es) X.env=(46:)::starEach es X.env:=by rfl) (hpl:(39:).any (·.1)=false:=by rfl):
 PE X (50:) (N9 X sp EE t):=by
 intro pins s σ H Q I h;refine wpAny_Call_Name_kw (ZP I hg hm ?_ hdb);refine PySem.W.callWith_K (h₀:=X.base) I.ok.mod.kin hk (thn (71:) λJ L ⟨vs,H1,G,r,q⟩=>⟨G.kIn,?_⟩) he hpl;exact ON F hr hb hx hfn G r q
end
end L2
namespace L2
open PySem PySem.Spec PyProof.Rows
theorem MX{e:Value}{env env':Env}(h:env.frame=env'.frame):noteFrame e env=noteFrame e env':=by
 unfold noteFrame PySem.frameOf;rw [h]
section
variable{M:Model}{A:Around}{E:Value->Shared->Prop}{s:Shared}
theorem WW{base:Heap}{l:List Env}{e:Addr}{cls a0 fl:Value}{fr:Option Addr}{Q:Unit->Shared->Prop}(st:base.StaysIn s.heap)(ff:s.heap.FunFrames base l)(tr:s.heap.TracedAtW base e cls a0 fl)
 (k:∀h2,base.StaysIn h2->h2.FunFrames base l->h2.TracedAtW base e cls a0 (fr.elim Value.none λf=>rawInt f)->s.heap.UpToSlots h2->Q () { s with heap:=h2 }):wpAny M A (setFlight (.ref e) fr) Q E s:=by
 obtain⟨ox,xs,t,ot,ys,ex,cx,dx,L,U,Y,J,dt,y3⟩:=tr;have Z:3<ys.size:=(Array.getElem?_eq_some_iff.mp y3).1;have G:∀b,b≠t->(s.heap.update t (Obj.mapFields (·.setIfInBounds 3 (fr.elim Value.none λf=>rawInt f)))).get? b=s.heap.get? b:=λb hb=>Heap.get?_update_other _ _ (Ne.symm hb);have nr:∀b o,s.heap.get? b=some o->(∀vs,o.data≠.fields vs)->b≠t:=λb o e1 e2 z=>by
  rw [z,J]at e1;cases e1;exact e2 ys dt
 unfold setFlight;refine wpAny_bind (wpAny_field ex dx L ?_);have pos:(Value.ref t !=Value.none)=true:=by simp
 rw [if_pos pos];refine wpAny_setField J dt Z (k _ (λb o e1=>?_) (ff.of_keeps λb o e1 e2=>⟨o,(G b (nr b o e1 e2)).trans e1,rfl⟩) ?_ λb o e1 e2=>⟨o.slots,(G b (nr b o e1 e2)).trans e1⟩)
 .refine(G b λz=>?_).trans (st b o e1);rw [z,U]at e1;cases e1
 .exact⟨ox,xs,t,_,_,(G e (Ne.symm Y)).trans ex,cx,dx,L,U,Y,Heap.get?_update_self _ J (Obj.isFreed_of_fields (Obj.data_mapFields dt _)),Obj.data_mapFields dt _,by simp [Z]⟩
theorem W4{base:Heap}{env:Env}{outer:List Env}{L e:Addr}{cls a0:Value}{fr:Option Addr}{Q:Unit->Shared->Prop}(hA:A.frames=some (env::outer))(hL:env.frame=some L)(st:base.StaysIn s.heap)(hn:base.get? e=none)(ff:s.heap.FunFrames base (env::outer))
 (tr:s.heap.TracedAtW base e cls a0 (fr.elim Value.none λf=>rawInt f)) (k:∀h2,Heap.FlyingW base outer e cls a0 h2->s.heap.UpToSlots h2->Q () { s with heap:=h2 }):wpAny M A (leaving env (.ref e)) Q E s:=by
 cases fr with
 | none=>exact wpAny_leaves_onW hA hL ⟨st,hn,ff,tr⟩ λh2 f2 up=>k h2 f2 up
 | some J=>
  have tr:s.heap.TracedAtW base e cls a0 (rawInt J):=tr
  by_cases z:J=L
  .subst z;unfold leaving;refine wpAny_bind (wpAny_noteFrame_againW hL tr ?_);refine wpAny_landsW ⟨st,hn,ff,tr⟩ λh2 U up=>?_;obtain⟨k1,Y,⟨_,_,Z⟩,k4⟩:=U;exact k h2 ⟨k1,Y,Z,k4⟩ up
  .obtain⟨ox,xs,t,ot,ys,ex,cx,dx,x1,nt,ne,et,dt,y3⟩:=tr;have y4:3<ys.size:=(Array.getElem?_eq_some_iff.mp y3).1;obtain⟨rfl,x0⟩:=cx;unfold leaving;refine wpAny_bind ?_;unfold noteFrame;simp only [hL];refine wpAny_bind (wpAny_field ex dx x1 ?_);have pos:(Value.ref t !=Value.none)=true:=by simp
   rw [if_pos pos];refine wpAny_bind (wpAny_field et dt y3 ?_);have aa:¬(rawInt J==rawInt L)=true:=λhh=>by
    simp [rawInt]at hh;exact z (Int.ofNat.inj hh)
   rw [if_neg aa];have G:∀b,b≠t->(s.heap.update t (Obj.mapFields (·.setIfInBounds 3 Value.none))).get? b=s.heap.get? b:=λb hb=>Heap.get?_update_other _ _ (Ne.symm hb);have nr:∀b o,s.heap.get? b=some o->(∀vs,o.data≠.fields vs)->b≠t:=λb o e1 e2 q=>by
    rw [q,et]at e1;cases e1;exact e2 ys dt
   refine wpAny_bind (wpAny_setField et dt y4 ?_);refine wpAny_entryW hA (ff.of_keeps λb o e1 e2=>⟨o,(G b (nr b o e1 e2)).trans e1,rfl⟩) hL ((G e (Ne.symm ne)).trans ex) (λb o e1=>?_) hn dx (Array.getElem?_eq_some_iff.mp x1).1 x0 λh2 nn=>?_
   .refine(G b λq=>?_).trans (st b o e1);rw [q,nt]at e1;cases e1
   .obtain⟨n1,n2,n3,n4⟩:=nn;refine wpAny_landsW ⟨n1,hn,n2,n3⟩ λh3 U up=>?_;obtain⟨k1,Y,⟨_,_,Z⟩,k4⟩:=U;have u2:s.heap.UpToSlots h2:=λb o e1 e2=>n4 b o ((G b (nr b o e1 e2)).trans e1) e2;exact k h3 ⟨k1,Y,Z,k4⟩ (u2.trans up)
end
theorem OT{fs ex:List Addr}{H H':Hp}{h h1 h2 B:Heap}(u:Un fs ex H H' h h1)(cov:∀b o,h1.get? b=some o->(H' b≠none\/(b∉ex/\∃o',h.get? b=some o'))->b∉fs->B.get? b=some o)(st:B.StaysIn h2)(up:h1.UpToSlots h2)(hfs:∀b∈fs,∀o,h1.get? b=some o->∀vs,o.data≠.fields vs):Un fs ex H H' h h2 where
 keep:=λb o e n G J=>st _ _ (cov b o (u.keep b o e n G J) (.inr ⟨J,o,e⟩) G)
 slot:=λb o e n G J=>by
  obtain⟨Y,e1⟩:=u.slot b o e n G J;obtain⟨L,e2⟩:=up b _ e1 (hfs b G _ e1);exact⟨L,e2⟩
 free:=u.free
 there:=λb o e J=>by
  obtain⟨U,e1⟩:=u.there b o e J
  by_cases G:b∈fs
  .obtain⟨L,e2⟩:=up b _ e1 (hfs b G _ e1);exact⟨_,e2⟩
  .exact⟨U,st _ _ (cov b U e1 (.inr ⟨J,o,e⟩) G)⟩
 tups:=u.tups
 frzs:=u.frzs
 tbls:=u.tbls
theorem Uu{h B B':Heap}(k:∀b,B.get? b=none->B'.get? b=none):∀{l:List Env},h.FunFrames B l->h.FunFrames B' l
 | [],_=>trivial
 | _::_,⟨a,⟨L,o,b1,b2,b3,b4⟩,c⟩=>⟨a,⟨L,o,b1,k _ b2,b3,b4⟩,Uu k c⟩
theorem Ur{h h' B:Heap}:∀{l:List Env},(∀b∈frs l,h'.get? b=h.get? b)->h.FunFrames B l->h'.FunFrames B l
 | [],_,_=>trivial
 | env::r,k,⟨a,⟨L,o,b1,b2,b3,b4⟩,c⟩=>by
  have e:frs (env::r)=L::frs r:=by
   unfold frs;rw [List.filterMap_cons,b1]
  refine⟨a,⟨L,o,b1,b2,(k L (by rw [e];exact List.mem_cons_self)).trans b3,b4⟩,Ur (λb G=>k b (by rw [e];exact List.mem_cons_of_mem _ G)) c⟩
theorem Me{P:Program}{w:World}{fs:List Addr}{H':Hp}{h1 h2 B:Heap}(hok:HOk P w H' h1)(trk:∀b∈fs,H' b=none)(cov:∀b o,h1.get? b=some o->H' b≠none->b∉fs->B.get? b=some o)(st:B.StaysIn h2):HOk P w H' h2:=λb u e=>by
 refine(hok b u e).stay (λc v hc r=>?_) (λ_ r=>r) λ_ _ r=>r;have G:H' c≠none:=by
  rcases hc with rfl | hc
  .rw [e];intro z;cases z
  .rw [hc];intro z;cases z
 exact st _ _ (cov c v r G λz=>G (trk c z))
def Z6(X:Cx)(N':List Str)(scope:Scope)(cl:List (38:))(E:XK)(C:Addr)(fp:List Addr)(s₀:Shared)(H₀:Hp):Cx:=
 { Qt X N' scope cl C fp s₀ H₀ with xe:=λe s'=>∃pins σ H s,Inv (Qt X N' scope cl C fp s₀ H₀) pins σ H s/\CX1 X.prog X.w X.stack H s E e s' }
section
variable{X:Cx}{N':List Str}{scope:Scope}{cl:List (38:)}{E:XK}{C:Addr}{fp:List Addr}{s₀:Shared}{H₀:Hp}{pins:List (8:)}{σ:St}{H:Hp}{s:Shared}
theorem Inv.toXE(I:Inv (Qt X N' scope cl C fp s₀ H₀) pins σ H s):Inv (Z6 X N' scope cl E C fp s₀ H₀) pins σ H s:=
 (95:)
theorem Inv.ofXE(I:Inv (Z6 X N' scope cl E C fp s₀ H₀) pins σ H s):Inv (Qt X N' scope cl C fp s₀ H₀) pins σ H s:=
 (95:)
theorem O5:Yr (Z6 X N' scope cl E C fp s₀ H₀) (λ_=>E):=λp2 σ H s e s' I h=>⟨p2,σ,H,s,I.ofXE,h⟩
end
def N6(X:Cx)(E:XK):Prop:=∀{N':List Str}{scope:Scope}{cl:List (38:)}{fp:List Addr}{s3:Shared}{H3:Hp}{pins:List (8:)}{σ:St}{use:Option (Value->Sem Unit)}{QQ:Value->Shared->Prop}{D:Value},Inv X pins σ H3 s3->
 (∀b∈fp,(73:)/\b≠X.env.locals/\(60:)/\∀p∈X.pn++pins,p.1≠b)->∀{e:Value}{s':Shared},(Z6 X N' scope cl E s3.heap.objs.size fp s3 H3).xe e s'->
  notedBy (3:) X.A (45:) (λx s'=>compPost (3:) X.A X.xe use QQ D s3.heap.objs.size (.error x) s') e s'
section
variable{P:Program}{w:World}{K:Fg}{mg:Str->Option Value}{base:Heap}{N:List Str}{qual:Str}{scp:Scope}{f:Addr}{cd:Value}{A:Around}{outer:List Env}{s:Shared}{H:Hp}{E:XK}
theorem Mt{N':List Str}{scope:Scope}{cl:List (38:)}{fp:List Addr}{s3:Shared}{H3:Hp}{pins:List (8:)}{σ:St}{use:Option (Value->Sem Unit)}{QQ:Value->Shared->Prop}{D:Value}
 (I3:Inv (13:) pins σ H3 s3) (hch:∀b∈fp,(b∈(13:).ex\/s.heap.objs.size<=b)/\b≠(13:).env.locals/\(∀x c,(13:).env.cells.lookup x=some c->c≠b)/\∀p∈(13:).pn++pins,p.1≠b)
 {e:Value} {s':Shared} (h:(Z6 (13:) N' scope cl E s3.heap.objs.size fp s3 H3).xe e s'):
 notedBy (model P w) (13:).A (compEnvC scope cl s3.heap.objs.size (13:).env)
  (λx s'=>compPost (model P w) (13:).A (13:).xe use QQ D s3.heap.objs.size (.error x) s') e s':=by
 obtain⟨p2,bj,H1,s1,I1,a,cls,H',rfl,F0,q⟩:=h;obtain⟨B,t,ae,af⟩:=F0.fly;generalize L:Qn (CX1 P w) P w K mg base N qual scp f cd A outer s H E=X at I3 hch I1;have Y:X.stack=X.env::X.outer:=by rw [<-L];rfl
 have ak:X.env.frame=some X.env.locals:=by rw [<-L];rfl
 have hP:X.prog=P:=by rw [<-L];rfl
 have hW:X.w=w:=by rw [<-L];rfl
 have aa:X.s₀=s:=by rw [<-L];rfl
 have ag:X.ex=[]:=by rw [<-L];rfl
 have ab:X.outer=outer:=by rw [<-L];rfl
 have av:X.H₀=H:=by rw [<-L];rfl
 have aw:X.xe=λe s'=>wpAny (model P w) X.A (leaving X.env e) (λ_ ah=>CX1 P w outer H s E e ah) (λe' ah=>CX1 P w outer H s E e' ah) s':=by rw [<-L];rfl
 have be:(envOfC qual scp s.heap.objs.size f cd::outer)=X.stack:=by rw [<-L];rfl
 have F:Flw P w X.stack H1 s1 a cls H' s':=by rw [<-L];exact F0
 have al:Heap.FlyingW B X.stack a cls (.ref t) s'.heap:=by rw [<-L];exact ae
 have am:Cov B (frs X.stack) H' s1.heap s'.heap:=by rw [<-L];exact af
 clear F0 ae af;subst hP hW;clear L;show wpAny _ X.A (noteFrame (.ref a) (45:)) _ _ s';rw [MX (env:=compEnvC scope cl s3.heap.objs.size X.env) (env':=X.env) rfl];refine wpAny_looks_onW (by rw [<-Y];exact I3.ok.frames) ak (by rw [<-Y];exact al) λh4 J ax=>?_;rw [<-Y]at J;have J4:=I1.flown F.os F.bare F.un F.hok al.2.2.1 am J.1 ax;obtain⟨m,hn,_⟩:=id J4.loc;have hn:h4.Ns s3.heap.objs.size m:=hn;refine⟨m,hn,λZ sb as bf=>?_⟩;have nC:∀b o,s3.heap.get? b=some o->b≠s3.heap.objs.size:=λb o e1=>Nat.ne_of_lt (Heap.lt_size e1);have nF:∀b∈frs X.stack,b≠s3.heap.objs.size:=λb G=>by
  obtain⟨_,o,ho,_⟩:=I3.stack.mem G;exact nC b o ho
 have free:H' s3.heap.objs.size=none:=J4.free;have U:Un (frs X.stack) fp H3 H' s3.heap h4:=J4.base;have an:Un (frs X.stack) fp H3 H' s3.heap Z:=⟨λb o e1 n1 n2 n3=>(sb.2 b (nC b o e1)).trans (U.keep b o e1 n1 n2 n3),λb o e1 n1 n2 n3=>by
  obtain⟨sl,z⟩:=U.slot b o e1 n1 n2 n3;exact⟨sl,(sb.2 b (nC b o e1)).trans z⟩,U.free,λb o e1 n1=>by
  obtain⟨o',z⟩:=U.there b o e1 n1;exact⟨o',(sb.2 b (nC b o e1)).trans z⟩,U.tups,U.frzs,U.tbls⟩
 have I6:Inv X pins σ H' { s' with heap:=h4 }:=I3.call' (s':={ s' with heap:=h4 }) (ch:=fp) J4.os U J4.hok J4.bare (λb G=>by rw [aa];exact hch b G);have own:OwnAt X pins H' { s' with heap:=h4 } s3.heap.objs.size:=⟨⟨m,hn⟩,free,Nat.ne_of_gt I3.lt,I3.sz,λy c e1 z=>by
  obtain⟨v,hv⟩:=I3.cell y c e1;exact absurd hv.lt (by rw [z];exact Nat.lt_irrefl _),λp hp z=>absurd (Heap.lt_size (I3.pin p hp).1) (by rw [z];exact Nat.lt_irrefl _)⟩
 have I7:Inv X pins σ H' { s' with heap:=Z }:=OwnAt.go (s:={ s' with heap:=h4 }) I6 own sb;have ay:∀b o,B.get? b=some o->b≠s3.heap.objs.size->(31:).get? b=some o:=λb o e1 n1=>PySem.W.hideAll_get _ e1 (by simpa using n1);have ai:∀b,B.get? b=none->(31:).get? b=none:=λb e1=>by
  cases z:(PySem.W.hideAll B [s3.heap.objs.size]).get? b with
  | none=>rfl
  | some o=>rw [PySem.W.of_hideAll _ z]at e1;cases e1
 have az:(31:).get? s3.heap.objs.size=none:=PySem.W.hideAll_none _ (21:);have a0:(31:).StaysIn Z:=λb o e1=>by
  have nb:b≠s3.heap.objs.size:=λz=>by rw [z,az]at e1;cases e1
  exact(sb.2 b nb).trans (J.1 b o (PySem.W.of_hideAll _ e1))
 obtain⟨oC,bg,bi,ao,ap,_⟩:=hn;obtain⟨ox,xs,tt,ot,ys,ex,cx,dx,x1,nt,ne,et,dt,y3⟩:=J.2.2.2;have nx:a≠s3.heap.objs.size:=λz=>by
  rw [z,ao]at ex;cases ex;rw [ap]at dx;cases dx
 have a1:tt≠s3.heap.objs.size:=λz=>by
  rw [z,ao]at et;cases et;rw [ap]at dt;cases dt
 have a3:Z.TracedAtW (31:) a cls (.ref t) (rawInt X.env.locals):=⟨ox,xs,tt,ot,ys,(sb.2 a nx).trans ex,cx,dx,x1,ai _ nt,ne,(sb.2 tt a1).trans et,dt,y3⟩;have a4:h4.FunFrames (31:) X.stack:=Uu ai J.2.2.1;have aq:Z.FunFrames (31:) X.stack:=Ur (λb G=>sb.2 b (nF b G)) a4;have a5:(31:).get? a=none:=ai _ J.2.1;have ac:∀b o,Z.get? b=some o->(H' b≠none\/(b∉fp/\∃o',s3.heap.get? b=some o'))->b∉frs X.stack->(31:).get? b=some o:=λb o e1 hc nb=>by
  have key:b≠s3.heap.objs.size/\∃o',s'.heap.get? b=some o'/\(H' b≠none\/∃o',s1.heap.get? b=some o'):=by
   rcases hc with hc | ⟨n1,o3,e3⟩
   .refine⟨λz=>hc (by rw [z];exact free),?_⟩;cases z:H' b with
    | none=>exact absurd z hc
    | some u=>
     obtain⟨o',e'⟩:=(F.hok b u z).there;exact⟨o',e',.inl (by intro y;cases y)⟩
   .obtain⟨o1,e4⟩:=I1.base.there b o3 e3 n1;obtain⟨o2,e5⟩:=F.un.there b o1 e4 (21:);exact⟨nC b o3 e3,o2,e5,.inr ⟨o1,e4⟩⟩
  obtain⟨nc,o',e',a6⟩:=key;have hB:=am b o' e' a6 nb;have e4:=J.1 _ _ hB;rw [sb.2 b nc,e4]at e1;cases e1;exact ay b _ hB nc
 unfold PySem.passOn;refine wpAny_bind (wpAny_field ((sb.2 a nx).trans ex) dx x1 ?_);have a7:¬(Value.ref tt==Value.none)=true:=by simp
 rw [if_neg a7];have go:wpAny (3:) X.A (setFlight (.ref a) as.frame) (λ_ s6=>wpAny (3:) X.A (throw (.ref a):Sem Value) (λ_ _=>False) X.xe s6) X.xe { s' with heap:=Z }:=by
  refine WW (s:={ s' with heap:=Z }) a0 aq a3 λh6 a8 a9 ba bb=>wpAny_throw ?_;rw [aw];refine W4 (s:={ s' with heap:=h6 }) (by rw [<-Y];exact I3.ok.frames) ak a8 a5 (by rw [<-Y];exact a9) ba λh7 ad bc=>?_;have au:Z.UpToSlots h7:=bb.trans bc;have bd:=OT an ac ad.1 au (WB aq);have aj:HOk X.prog X.w H' h7:=Me (B:=PySem.W.hideAll B [s3.heap.objs.size]) (fs:=frs X.stack) I7.hok (λb G=>I7.stkFree b G) (λb o e1 G nb=>ac b o e1 (.inl G) nb) ad.1;have J7:Inv X pins σ H' { s' with heap:=h7 }:=I3.call' (s':={ s' with heap:=h7 }) (ch:=fp) J4.os bd aj J4.bare (λb G=>by rw [aa];exact hch b G);refine⟨a,cls,H',rfl,⟨by rw [<-aa];exact J7.os,J7.bare,?_,aj,_,t,by rw [<-ab];exact ad,?_⟩,q⟩
  .have:=J7.base;rw [ag,av,aa]at this;rw [<-ab];exact this
  .intro b o e1 G nb;have key:∃o',Z.get? b=some o'/\(H' b≠none\/(b∉fp/\∃o',s3.heap.get? b=some o'))/\b∉frs X.stack:=by
    rcases G with G | ⟨o',G⟩
    .cases z:H' b with
     | none=>exact absurd z G
     | some u=>
      obtain⟨o',e'⟩:=(I7.hok b u z).there;exact⟨o',e',.inl (by intro y;cases y),λy=>by rw [I7.stkFree b y]at z;cases z⟩
    .have h1:X.s₀.heap.get? b=some o':=by rw [aa];exact G
     obtain⟨o1,e3⟩:=I3.base.there b o' h1 (by rw [ag];simp);have ar:b∉fp:=λy=>by
      rcases(hch b y).1 with z | z
      .rw [ag]at z;simp at z
      .rw [<-aa]at z;exact absurd (Nat.lt_of_lt_of_le (Heap.lt_size h1) z) (Nat.lt_irrefl _)
     obtain⟨o2,e5⟩:=an.there b o1 e3 ar;refine⟨o2,e5,.inr ⟨ar,o1,e3⟩,λz=>?_⟩;rcases List.mem_cons.mp (I3.stkSub b z)with z | z
     .rw [z]at h1;exact absurd (Nat.lt_of_lt_of_le (Heap.lt_size h1) I3.ok.above) (Nat.lt_irrefl _)
     .exact nb (by rw [<-ab];exact z)
   obtain⟨o',k1,k2,k3⟩:=key;have hB:=ac b o' k1 k2 k3;have:=ad.1 _ _ hB;rw [e1]at this;cases this;exact hB
 first
  | exact wpAny_bind (wpAny_pure (wpAny_bind go))
  | exact wpAny_bind go
theorem Si:N6 (13:) E:=λJ G _ _ h=>Mt J G h
end
theorem Uq{X:Cx}{elt iter tg:Expr}{xs:List Str}{ifs:List Expr}{scope:Scope}{pos pos':Pos}{wi:TI}{g:TG}{tt:TT}{te:TE}{cl:List (38:)}{caps:List Str}{cap:List Nat}
 {E:XK} (hE:N6 X E) (O:CompG X xs caps cap scope cl) (hc:X.calm=true) (hi:PI X tg iter wi) (hg:∀C fp s₀ H₀,PG (12:) tg g)
 (ht:∀C fp s₀ H₀,PF (12:) ifs tt) (he:∀C fp s₀ H₀,PE (Z6 X (xs++caps) scope cl E C fp s₀ H₀) elt te)
 (hs:∀x,foldedSetIterable iter X.env x=pure x) {pins:List (8:)} {s:Shared} {σ:St} {H:Hp} {Q:VK} {use:Option (Value->Sem Unit)} {QQ:Value->Shared->Prop} (I:Inv X pins σ H s)
 (h:Z9 xs.length wi cap g tt te σ H Q)
 (hfin:∀D C H' s',Inv X pins σ H' s'->OwnAt X pins H' s' C->Q (.ref D) H'->compPost (3:) X.A X.xe use QQ (.ref D) C (.ok .next) s'):
 wpAny (3:) X.A (89:) QQ X.xe s:=
 Us O hc hi hg ht hs I h hfin λU Y Z q9=>wpAny_mono (he _ _ _ _ _ _ _ _ _ Z.toXE q9) (λ_ _ ⟨yy,G,J,L,q⟩=>⟨yy,G,J.ofXE,L,q⟩) λ_ _ hx=>hE U Y hx
theorem VF{X:Cx}{elt iter tg:Expr}{xs:List Str}{ifs:List Expr}{scope:Scope}{pos:Pos}{wi:TI}{g:TG}{tt:TT}{te:TE}{cl:List (38:)}{caps:List Str}{cap:List Nat}
 {E:XK} (hE:N6 X E) (O:CompG X xs caps cap scope cl) (hc:X.calm=true) (hi:PI X tg iter wi) (hg:∀C fp s₀ H₀,PG (12:) tg g)
 (ht:∀C fp s₀ H₀,PF (12:) ifs tt) (he:∀C fp s₀ H₀,PE (Z6 X (xs++caps) scope cl E C fp s₀ H₀) elt te)
 (hs:∀x,foldedSetIterable iter X.env x=pure x:=by intro _;rfl):
 PE X (15:) (Z9 xs.length wi cap g tt te):=by
 intro pins s σ H Q I h;rw [eval_ListComp];exact Uq (use:=none) hE O hc hi hg ht he hs I h λD C H' s' G o q=>by
  obtain⟨m,J⟩:=o.ns;exact⟨m,J,λh' L=>⟨.ref D,H',o.go G L,rfl,q⟩⟩
theorem Lr{X:Cx}{elt iter tg:Expr}{xs:List Str}{y:Str}{py:Pos}{ifs:List Expr}{scope:Scope}{pos spos:Pos}{wi:TI}{g:TG}{tt:TT}{te:TE}{cl:List (38:)}{caps:List Str}{cap:List Nat}{i:Nat}
 {E:XK} (hE:N6 X E) (O:CompG X xs caps cap scope cl) (hc:X.calm=true) (hi:PI X tg iter wi) (hg:∀C fp s₀ H₀,PG (12:) tg g)
 (ht:∀C fp s₀ H₀,PF (12:) ifs tt) (he:∀C fp s₀ H₀,PE (Z6 X (xs++caps) scope cl E C fp s₀ H₀) elt te)
 (hN:X.N.Nodup) (hy:X.N[i]?=some y) (hl:X.env.scope.names.lookup y=some .local)
 (hsw:swapsWith (15:) (some (.Name y py)) spos.line X.env=pure true:=by rfl)
 (hs:∀x,foldedSetIterable iter X.env x=pure x:=by intro _;rfl):
 PS X (.Assign [.Name y py] (15:) spos) (NR (Z9 xs.length wi cap g tt te) (Q3 i)):=by
 intro pins s σ H D I h;rw [exec_Assign_Name_used _ _ _ _ hsw];refine wpAny_bind (wpAny_standAt (wpAny_bind ?_));show wpAny _ X.A (do let _ <-comprehension (15:) scope X.env _ (newList []) false (eval iter X.env) (some (assign (.Name y py) X.env))) _ _ s;refine wpAny_bind (thn (Uq (use:=some (assign (.Name y py) X.env)) (QQ:=λ_ s'=>SP X pins D .next s') hE O hc hi hg ht he hs I h λDd C H' s' U o q=>?_) λ_ s' Y=>wpAny_pure (wpAny_pure Y));obtain⟨m,L⟩:=o.ns;show wpAny _ X.A (assign (.Name y py) X.env (.ref Dd)) _ _ s';refine wpAny_assign_Name (Ue (v:=.ref Dd) U hN hy (.inl hl) rfl (λZ I2 G=>?_) (.inr hl));obtain⟨a,G,ha⟩:=G;have J:C≠a:=by
  rcases ha with z | z
  .rw [z];exact o.loc
  .exact Ne.symm (o.cells y a z)
 have o2:OwnAt X pins H' Z C:=⟨⟨m,L.sameBut G J⟩,o.free,o.loc,o.above,o.cells,o.pins⟩;refine⟨m,L.sameBut G J,λh' hb=>?_⟩;exact⟨_,H',o2.go I2 hb,q⟩
end L2
namespace K65
open PySem L2 TM TT K9 K11
structure Rs(K:Fg)(mg:Str->Option Value)(x:Str)(N:Addr):Prop where
 hm:mg x=some (.ref N)
 hq:PySem.W.excIn K N NB "ValueError.__new__"=true
structure DmM(P:Program)(w:World)(K:Fg)(mg:Str->Option Value)(base:Heap)(C:Addr)(n:Nat):Prop where
 t:DmT K mg C
 mi:∃f fd,Mk K C f/\FnOk P w K mg base CX0 (n+4) f fd ["self","turning","wood"] (MJ K C n)/\Binds K fd ["self","turning","wood"] []
def MP(K:Fg)(n:Nat):Sp:=λvs H Q _=>∃(nm:Nat)(tu wd lm wo:Addr)(sv:V)(ks1 ks:List KdT)(k01 k00:KdT)(t0:Tm)(ms:List MoT),vs=[.ref tu,.ref wo]/\TuAt K H tu wd sv lm ks1 t0 ms/\TuOk ks1 nm n t0 ms/\ks1[0]?=some k01/\WoodAt K H wo ks/\WG ks/\ks[0]?=some k00/\nm*ks.length<=1000/\n<=100/\
 ∀(H':Hp)(b:Bool)(ds:List Dd),Same H H'->Dem (Qv ks) n t0 k00.2.1 ms ds->(b=false↔okk (Qv ks) n t0 k00.2.1/\∀d∈ds,okR (Qv ks) n ms d)->Q (.bl b) H'
def ruK(ks:List KdT)(ms:List MoT)(m:Int)(nm:Str):Option Tm:=if 0<=m then(ms[m.toNat]?).bind λmo=>(((rowsK ks mo.2.1).zip mo.2.2.2.2).find? λp=>decide (p.1.2.1=nm)).map (·.2)else none
def QV(K:Fg):Sp:=λvs H Q _=>∃(nm n:Nat)(tu wd lm:Addr)(sv:V)(ks:List KdT)(t0 r:Tm)(ms:List MoT)(m:Int)(name:Str),vs=[.ref tu,.int m,.str name]/\TuAt K H tu wd sv lm ks t0 ms/\TuOk ks nm n t0 ms/\ruK ks ms m name=some r/\
 ∀(v:V)(H':Hp),Same H H'->TmV K H' v r->Q v H'
section
variable{P:Program}{w:World}{K:Fg}{mg:Str->Option Value}{base:Heap}{f:Addr}{fd:FuncData}{C:Addr}
theorem S3:FnScope ["turning","wood"] ["turning","wood"] (defScope PH):=(0:)
theorem RQ{n:Nat}(F:Fun K "strays_at_all" "strays_at_all" PH f fd)(M:DmM P w K mg base C n):FnOk P w K mg base CX0 (n+6) f fd ["turning","wood"] (MP K n):=by
 obtain⟨fI,ag,aa,FI,bI⟩:=M.mi;have T:=M.t;refine F.ok S3 (11:) (λah A outer s H vs Q E hr h=>?_)
 .obtain⟨nm,tu,wd,lm,wo,sv,ks1,ks,J,L,t0,ms,rfl,_⟩:=h
  rfl
 obtain⟨nm,tu,wd,lm,wo,sv,ks1,ks,J,L,t0,ms,rfl,ab,hO,U,ac,ad,Y,ae,hn,q⟩:=h;refine⟨_,(Qi (Ql (YG Gf (Q5 (X8 aa FI hr rfl T.mgC bI .nil Yq (Qa (pv 0) (Qa (pv 1) Qe))) rfl) Uk (QK _)))),?_⟩
 try dsimp only [Qn,Cx.nox]
 refine⟨_,rfl,_,rfl,λx dx nx af ne=>?_⟩;have Z:Same H (upd (upd H dx (.own x)) x (.ins C dx [])):=λb o e=>by
  rw [Qg (Qd e nx),Qg (Qd e af)];exact e
 refine⟨nm,x,dx,tu,wd,lm,wo,sv,ks1,ks,J,L,t0,ms,rfl,Qb,ab.same Z,hO,U,ac.same Z,ad,Y,ae,hn,λH1 kb st wt fv ds gx hx hD G=>⟨rfl,?_⟩⟩;have s1:Same H H1:=λb o e=>gx b o (Qd e nx) (Z b o e);refine⟨x,C,dx,_,_,rfl,hx,T.cl,T.nF,rfl,rfl,q H1 _ ds s1 hD ?_⟩
 by_cases h:fv=.non
 .rw [decide_eq_true h];exact⟨λ_=>G.mp h,λ_=>rfl⟩
 .rw [decide_eq_false h];exact⟨λz=>(nomatch z),λz=>absurd (G.mpr z) h⟩
theorem Ya:FnScope ["turning","mode","name","kind","rules","row","rule"] ["turning","mode","name"] (defScope Xl):=(0:)
theorem GX(F:Fun K "rule_of" "rule_of" Xl f fd)(G:Gm mg)(RO:Fn P w K mg base 1 "rows_of" ["wood","kind"] (Z5 K)):FnOk P w K mg base CX0 2 f fd ["turning","mode","name"] (QV K):=by
 refine F.ok Ya (11:) (λar A outer s H vs Q E hr h=>?_)
 .obtain⟨nm,n,tu,wd,lm,sv,ks,t0,r,ms,m,name,rfl,_⟩:=h
  rfl
 obtain⟨nm,n,tu,wd,lm,sv,ks,t0,r,ms,m,name,rfl,L,hO,J,q⟩:=h;refine⟨_,(Qh (Qz (i:=3) Ya.nd rfl (32:) (Qk Qj (Qk QP (4:) (pv 1) (26:)) Qf (26:)))
  (Qh (Qz (i:=4) Ya.nd rfl (32:) (Qk Qj (Qk QP (4:) (pv 1) (26:)) Qf (26:)))
  (Qh (QX PassesOwn.never rfl (VG rfl G.zip (Qa (QF RO hr (Qa (4:) (Qa (pv 3) Qe))) (Qa (pv 4) Qe))) (ZA rfl (QA (Qw (i:=5) Ya.nd rfl (32:)) (QA (Qw (i:=6) Ya.nd rfl (32:)) Zh)))
   (Qi (QM (QC Yo (Qk Qj (pv 5) Qf (26:)) (pv 2) (QK _)) (Qi (Ql (pv 6))) Qr)))
  (Qi (Ql Uk))))),?_⟩
 try dsimp only [Qn,Cx.nox]
 unfold ruK at J
 by_cases ab:0<=m
 .rw [if_pos ab]at J;cases em:ms[m.toNat]? with
  | none=>rw [em]at J;cases J
  | some Y=>
   rw [em]at J;have J:(((rowsK ks Y.2.1).zip Y.2.2.2.2).find? λp=>decide (p.1.2.1=name)).map (·.2)=some r:=J;have aa:=List.mem_of_getElem? em;have ad:atI (ms.map λm=>V.ref m.1) m=some (.ref Y.1):=by
    rw [<-Int.toNat_of_nonneg ab];exact Qo (by rw [List.getElem?_map,em];rfl)
   obtain⟨m1,m2,m3⟩:=L.mo _ aa;refine⟨_,rfl,tu,_,2,_,rfl,rfl,L.tu,rfl,_,rfl,lm,_,_,_,rfl,rfl,L.lm,ad,_,_,0,_,rfl,rfl,m1,rfl,?_⟩;refine⟨_,rfl,tu,_,2,_,rfl,rfl,L.tu,rfl,_,rfl,lm,_,_,_,rfl,rfl,L.lm,ad,_,_,1,_,rfl,rfl,m1,rfl,?_⟩;obtain⟨U,aj,ai,ac⟩:=Yg (hO.kd _ aa);have ae:=hO.ru _ aa;rw [ai]at ae J;refine⟨_,rfl,tu,_,0,_,rfl,rfl,L.tu,rfl,_,rfl,wd,_,ks,U,rfl,L.wd,hO.wo,aj,λH1 g1=>?_⟩;have af:=L.same g1;obtain⟨as,ak,al⟩:=af.mo _ aa;have am:=al.length;have an:(U.2.2.2.map λt=>V.ref t.1).length=Y.2.2.2.1.length:=by rw [List.length_map,ae,am]
   refine⟨_,rfl,U.2.2.1,Y.2.2.1,_,_,rfl,(af.wd.2 U ac).2.1,ak,?_⟩;refine Xo (K:=K) (xs:=U.2.2.2.map λt=>V.ref t.1) (ys:=Y.2.2.2.1) an (λj σ H'=>∃(c4 c5:Option V),σ=[some (.ref tu),some (.int m),some (.str name),some (.str Y.2.1),some (.ref Y.2.2.1),c4,c5]/\Same H H'/\(((U.2.2.2.zip Y.2.2.2.2).drop j).find? λp=>decide (p.1.2.1=name)).map (·.2)=some r)
    ⟨none,none,rfl,g1,J⟩ ?_ ?_ ?_
   .rintro j σ H' _ ⟨c4,c5,_,g,_⟩;have ag:=L.same g;exact⟨(ag.wd.2 U ac).2.1,(ag.mo _ aa).2.1⟩
   .rintro j u v p σ H' hu hv hp ⟨c4,c5,rfl,g,Z⟩;have hj:j<U.2.2.2.length:=by
     have:=(List.getElem?_eq_some_iff.mp hu).1
     rwa [List.length_map]at this
    have ao:j<Y.2.2.2.2.length:=by lia
    obtain rfl:u=.ref U.2.2.2[j].1:=by
     rw [List.getElem?_map,List.getElem?_eq_getElem hj]at hu;exact(Option.some.inj hu).symm
    have gp:=Qc hp (.tup [.ref U.2.2.2[j].1,v]);have g':=g.trans gp;have ah:=L.same g';obtain⟨r1,r2⟩:=(ah.wd.2 U ac).2.2 _ (List.getElem_mem hj);obtain⟨cv,ap,aq⟩:=(ah.mo _ aa).2.2.get (List.getElem?_eq_getElem ao);obtain rfl:cv=v:=Option.some.inj (ap.symm.trans hv);have ez:(U.2.2.2.zip Y.2.2.2.2).drop j=(U.2.2.2[j],Y.2.2.2.2[j])::(U.2.2.2.zip Y.2.2.2.2).drop (j+1):=by
     rw [List.drop_eq_getElem_cons (by rw [List.length_zip];lia),List.getElem_zip]
    rw [ez,List.find?_cons]at Z;refine⟨p,_,rfl,SqT.of Qb,rfl,_,_,rfl,_,_,rfl,rfl,?_⟩;refine⟨_,rfl,_,_,0,_,rfl,rfl,r1,rfl,_,rfl,rfl,_,rfl,?_⟩
    by_cases he:U.2.2.2[j].2.1=name
    .rw [decide_eq_true he]at Z;have Z:Y.2.2.2.2[j]=r:=Option.some.inj Z;rw [<-Z]at q;exact UC (by rw [he]) ⟨_,rfl,q _ _ g' aq⟩
    .rw [decide_eq_false he]at Z;exact Jy (λz=>he (by injection z)) ⟨_,_,rfl,g',Z⟩
   .rintro σ H' ⟨c4,c5,rfl,g,Z⟩;rw [List.length_map,List.drop_of_length_le (by rw [List.length_zip];lia)]at Z;cases Z
 .rw [if_neg ab]at J;cases J
end
end K65
namespace K65
open PySem L2 TM TT K9 K11
abbrev sTI:Stmt:=inClass (top 31) 0
abbrev sBM:Stmt:=inClass (top 31) 1
abbrev sBR:Stmt:=inClass (top 31) 2
abbrev sTO:Stmt:=inClass (top 31) 3
inductive LP where
 | call (i j b:Int)
 | put (n:Str) (k:Bool) (a:Int)
abbrev TP:=Tree LP
mutual
inductive TpV(K:Fg)(H:Hp):V->TP->Prop where
 | call {a p:Addr} {i j b:Int}:SqT K H a [.str Yn,.ref p,.int b]->H p=some (.tup [.int i,.int j])->TpV K H (.ref a) (.node (.call i j b) 0 [])
 | put {a b:Addr} {vs:List V} {ts:List TP} {n:Str} {k:Bool} {ad:Int}:SqT K H a [.str PUT,.str n,.bl k,.int ad,.ref b]->SqT K H b vs->TpAll K H vs ts->vs.length<=1000->TpV K H (.ref a) (.node (.put n k ad) 0 ts)
inductive TpAll(K:Fg)(H:Hp):List V->List TP->Prop where
 | nil:TpAll K H [] []
 | cons {v:V} {vs:List V} {t:TP} {ts:List TP}:TpV K H v t->TpAll K H vs ts->TpAll K H (v::vs) (t::ts)
end
def KeepT(K:Fg)(H H':Hp):Prop:=(∀a xs,SqT K H a xs->SqT K H' a xs)/\∀a xs,H a=some (.tup xs)->H' a=some (.tup xs)
theorem KeepT.same{K:Fg}{H H':Hp}(g:Same H H'):KeepT K H H':=⟨λ_ _=>g.seqT,λ_ _ h=>g _ _ h⟩
theorem KeepT.ins{K:Fg}{H H':Hp}{x:Addr}(i:InsAt H x)(g:SameX x H H'):KeepT K H H':=⟨λ_ _=>i.seqT g,λ_ _ h=>by
 obtain⟨C,dx,fs,G⟩:=i.ex;exact g _ _ (ne_of h G (10:)) h⟩
theorem KeepT.trans{K:Fg}{H H1 H2:Hp}(a:KeepT K H H1)(b:KeepT K H1 H2):KeepT K H H2:=⟨λ_ _ h=>b.1 _ _ (a.1 _ _ h),λ_ _ h=>b.2 _ _ (a.2 _ _ h)⟩
theorem KeepT.put{K:Fg}{H:Hp}{l:Addr}{ys:List V}{o:HO}(h:H l=some (.lst ys)):KeepT K H (upd H l o):=⟨λ_ _ q=>q.put h,λ_ _ q=>by rw [Qg (ne_of q h (10:))];exact q⟩
mutual
theorem TpV.mono{K:Fg}{H H':Hp}(k:KeepT K H H'):∀{v:V}{t:TP},TpV K H v t->TpV K H' v t
 | _,_,.call h1 h2=>.call (k.1 _ _ h1) (k.2 _ _ h2)
 | _,_,.put h1 h2 G J=>.put (k.1 _ _ h1) (k.1 _ _ h2) (TpAll.mono k G) J
theorem TpAll.mono{K:Fg}{H H':Hp}(k:KeepT K H H'):∀{vs:List V}{ts:List TP},TpAll K H vs ts->TpAll K H' vs ts
 | _,_,.nil=>.nil
 | _,_,.cons h t=>.cons (TpV.mono k h) (TpAll.mono k t)
end
theorem TpAll.append{K:Fg}{H:Hp}:∀{vs ws:List V}{ts us:List TP},TpAll K H vs ts->TpAll K H ws us->TpAll K H (vs++ws) (ts++us)
 | _,_,_,_,.nil,h=>h
 | _,_,_,_,.cons a t,h=>.cons a (TpAll.append t h)
theorem TpAll.length{K:Fg}{H:Hp}:∀{vs:List V}{ts:List TP},TpAll K H vs ts->vs.length=ts.length
 | _,_,.nil=>rfl
 | _,_,.cons _ t=>by rw [List.length_cons,List.length_cons,TpAll.length t]
theorem UL{α:Type}:∀l r:List (Tree α),szs (l++r)=szs l+szs r
 | [],r=>by simp [szs]
 | t::l,r=>by rw [List.cons_append,szs,szs,UL l r];lia
theorem Wg{α:Type}(l:List (Tree α))(i:Nat):szs (l.take i)<=szs l:=by
 have:=UL (l.take i) (l.drop i);rw [List.take_append_drop]at this;lia
mutual
noncomputable def BR(ru:Int->Str->Option Tm):Nat->Tm->Tm->TP->Prop
 | 0,_,_,_=>False
 | n+1,r,t,o=>(∃nm' k' a',lab t=.put nm' k' a'/\match lab r with
  | .call m b=>∃c,0<=b/\t.bs[b.toNat]?=some c/\BM ru n m c o
  | .put nm k a=>∃os:List TP,o=.node (.put nm (k&&k') (if k=true then a+a' else a)) 0 os/\os.length=r.bs.length/\∀(i:Nat) p q,r.bs[i]?=some p->os[i]?=some q->BR ru n p t q)
noncomputable def BM(ru:Int->Str->Option Tm):Nat->Int->Tm->TP->Prop
 | 0,_,_,_=>False
 | n+1,m,t,o=>match lab t with
  | .call i b=>o=.node (.call i m b) 0 []
  | .put nm _ _=>∃r,ru m nm=some r/\BR ru n r t o
end
def tbf(ot:Addr)(l:Nat):List (Str×V):=[("other",.ref ot),("left",.int (l:Int))]
theorem OP(ot:Addr)(l:Nat)(z:Int)(h:0<l)(e:z=((l:Int)-1)):Q6 "left" (.int z) (tbf ot l)=tbf ot (l-1):=by
 unfold tbf;rw [QU (1:),Gb,e,show((l:Int)-1)=((l-1:Nat):Int)by lia]
structure TbT(K:Fg)(mg:Str->Option Value)(C:Addr):Prop where
 cl:Cls K C
 nO:NoAttr K C "other"
 nL:NoAttr K C "left"
 mgC:mg "TermBehind"=some (.ref C)
theorem Vq{α:Type}{k:Nat}:∀{l:List (Tree α)},(∀t∈l,lv t<=k)->lvs l<=k
 | [],_=>by simp [lvs]
 | t::l,h=>by
  rw [lvs];exact Nat.max_le.mpr ⟨h t List.mem_cons_self,Vq λu G=>h u (34:)⟩
def Oj(C N:Addr):Sp:=λvs H Q E=>∃(x dx ot:Addr)(l room:Nat),vs=[.ref x,.int (room:Int)]/\H x=some (.ins C dx (tbf ot l))/\(0<l->0<room->Q .non (upd H x (.ins C dx (tbf ot (l-1)))))/\(¬(0<l/\0<room)->E (.ref N) none H)
def VJ(K:Fg)(C N:Addr)(n:Nat):Sp:=λvs H Q E=>∃(x dx ot wd lm:Addr)(sv:V)(ks:List KdT)(t0:Tm)(ms:List MoT)(nm n' l room:Nat)(rv tv:V)(rule read:Tm)(out:TP),vs=[.ref x,rv,tv,.int (room:Int)]/\H x=some (.ins C dx (tbf ot l))/\TuAt K H ot wd sv lm ks t0 ms/\TuOk ks nm n' t0 ms/\TmV K H rv rule/\TmV K H tv read/\BR (ruK ks ms) n rule read out/\l<=1000/\
 (sz out<=l->lv out<=room->∀(v:V)(H':Hp),SameX x H H'->H' x=some (.ins C dx (tbf ot (l-sz out)))->TpV K H' v out->Q v H')/\(¬(sz out<=l/\lv out<=room)->∀H':Hp,SameX x H H'->E (.ref N) none H')
def GN(K:Fg)(C N:Addr)(n:Nat):Sp:=λvs H Q E=>∃(x dx ot wd lm:Addr)(sv:V)(ks:List KdT)(t0:Tm)(ms:List MoT)(nm n' l room:Nat)(tv:V)(m:Int)(read:Tm)(out:TP),vs=[.ref x,.int m,tv,.int (room:Int)]/\H x=some (.ins C dx (tbf ot l))/\TuAt K H ot wd sv lm ks t0 ms/\TuOk ks nm n' t0 ms/\TmV K H tv read/\BM (ruK ks ms) n m read out/\l<=1000/\
 (sz out<=l->lv out<=room->∀(v:V)(H':Hp),SameX x H H'->H' x=some (.ins C dx (tbf ot (l-sz out)))->TpV K H' v out->Q v H')/\(¬(sz out<=l/\lv out<=room)->∀H':Hp,SameX x H H'->E (.ref N) none H')
section
variable{P:Program}{w:World}{K:Fg}{mg:Str->Option Value}{base:Heap}{f:Addr}{fd:FuncData}{C N:Addr}
theorem T7:FnScope ["self","room"] ["self","room"] (defScope sTO):=(0:)
theorem ST{t30 t200:Tok}(F:Fun K "take_one" "TermBehind.take_one" sTO f fd)(T:TbT K mg C)(R:Rs K mg "TooGreat" N)(h30:mg "MOST_LEVELS"=some (.int 30 t30))(h200:mg "MOST_SIZE"=some (.int 200 t200)):FnOk P w K mg base (CX1 P w) 1 f fd ["self","room"] (Oj C N):=by
 refine Fun.okX F T7 (11:) (λab A outer s H vs Q E hr h=>?_)
 .obtain⟨x,dx,Y,l,G,rfl,_⟩:=h
  rfl
 obtain⟨x,dx,Y,l,G,rfl,U,q,Z⟩:=h;refine⟨_,(Qh (QM (QC Yo (pv 1) Qf (QK _)) (Qi (YH R.hm R.hq PySem.F.excBase_ValueError (18:) (Qa (Wz QJ (XE (Ye (v:=.int 30) rfl h30 (51:))) QJ) Qe))) Qr)
  (Qh (QM (QC Yo (Q5 (pv 0) rfl) Qf (QK _)) (Qi (YH R.hm R.hq PySem.F.excBase_ValueError (18:) (Qa (NE QJ (XE (Ye (v:=.int 200) rfl h200 (51:)))) Qe))) Qr)
  (Qi (GI (pv 0) Qf Rm)))),?_⟩
 try dsimp only [Qn,Cx.nox]
 refine⟨_,rfl,rfl,_,rfl,WE (λc=>?_) (λc=>?_)⟩
 .have J:V.int (G:Int)=V.int 0:=of_decide_eq_true c;injection J with J;exact⟨_,rfl,by decide+kernel,30,rfl,by decide+kernel,_,rfl,by decide+kernel,_,rfl,by decide+kernel,(76:),Z (λz=>by lia)⟩
 have J:¬V.int (G:Int)=V.int 0:=λz=>c (decide_eq_true z);have aa:0<G:=Nat.pos_of_ne_zero λz=>J (by rw [z];rfl);refine⟨_,rfl,x,C,dx,_,_,rfl,U,T.cl,T.nL,rfl,rfl,_,rfl,WE (λd=>?_) (λd=>?_)⟩
 .have L:V.int (l:Int)=V.int 0:=of_decide_eq_true d;injection L with L;exact⟨_,rfl,by decide+kernel,200,rfl,by decide+kernel,_,rfl,by decide+kernel,(76:),Z (λz=>by lia)⟩
 have L:¬V.int (l:Int)=V.int 0:=λz=>d (decide_eq_true z);have hl:0<l:=Nat.pos_of_ne_zero λz=>L (by rw [z];rfl);refine⟨_,rfl,x,C,dx,_,_,rfl,U,T.cl,T.nL,rfl,_,_,rfl,rfl,dx,_,U,(by show 2<1000;decide),?_⟩;rw [OP Y l _ hl rfl];exact q hl aa
theorem Ax:FnScope ["self","mode","term","room"] ["self","mode","term","room"] (defScope sBM):=(0:)
theorem SR{n:Nat}(F:Fun K "by_mode" "TermBehind.by_mode" sBM f fd)(T:TbT K mg C)(RC:Fn P w K mg base 1 "is_call" ["term"] (ZF K))(RR:Fn P w K mg base 2 "rule_of" ["turning","mode","name"] (QV K))(MT:MtX P w K mg base C 1 "take_one" ["self","room"] (Oj C N))(MR:MtX P w K mg base C (n+2) "by_rule" ["self","rule","read","room"] (VJ K C N n)):FnOk P w K mg base (CX1 P w) (n+3) f fd ["self","mode","term","room"] (GN K C N (n+1)):=by
 refine Fun.okX F Ax (11:) (λam A outer s H vs Q E hr h=>?_)
 .obtain⟨x,dx,Z,wd,lm,sv,ks,t0,ms,nm,n',l,L,tv,m,U,out,rfl,_⟩:=h
  rfl
 obtain⟨x,dx,Z,wd,lm,sv,ks,t0,ms,nm,n',l,L,tv,m,U,out,rfl,Y,aa,hO,hv,G,hl,q,qE⟩:=h;have ad:Room 1 _:=hr.mono (6:);have ae:Room 2 _:=hr.mono (6:);have af:Room (n+2) _:=hr;refine⟨_,(Qh (QM (QS (QF RC hr (Qa (pv 2) Qe) (6:))) (Qh (QL (YB (EE:=λ_=>E) MT T.cl ad (YK λ_ _ h=>h) (pv 0) (Qa (pv 3) Qe) (7:)))
  (Qi (Ql (Qx (Qa (QJ) (Qa ((Qx (Qa (Qk Qj (pv 2) Qf (26:)) (Qa (pv 1) Qe)))) (Qa (Qk Qj (pv 2) Qf (26:)) Qe))))))) Qr)
  (Qi (Ql (YB (EE:=λ_=>E) MR T.cl af (YK λ_ _ h=>h) (pv 0) (Qa (QF RR ae (Qa (Q5 (pv 0) rfl) (Qa (pv 1) (Qa (Qk Qj (pv 2) Qf (26:)) Qe)))) (Qa (pv 2) (Qa (pv 3) Qe))) (7:))))),?_⟩
 try dsimp only [Qn,Cx.nox]
 have i0:InsAt H x:=⟨_,_,_,Y⟩;rcases Zv hv with⟨a,mo,b,rfl,rfl,h1⟩ | ⟨a,b,bs,ab,k',ag,rfl,et,h1,h2,h3,h4⟩
 .have G:out=.node (.call mo m b) 0 []:=by rw [BM]at G;exact G
  subst G;have e1:sz (.node (LP.call mo m b) 0 []:TP)=1:=by rw [WD];rfl
  have e2:lv (.node (LP.call mo m b) 0 []:TP)=1:=by rw [Q8];rfl
  rw [e1,e2]at q qE;refine⟨_,rfl,a,Yn,_,rfl,h1,_,rfl,UC rfl ?_⟩;refine⟨_,rfl,x,dx,_,rfl,Y,rfl,_,rfl,x,dx,Z,l,L,rfl,Y,λan ao=>?_,λhz=>qE (λz=>hz ⟨by lia,by lia⟩) H (SameX.refl _ _)⟩;have J:SameX x H (upd H x (.ins C dx (tbf Z (l-1)))):=SameX.upd;have ac:=i0.seqT J h1;refine⟨_,rfl,a,_,1,_,rfl,rfl,ac,rfl,_,rfl,(30:),λp hp=>⟨_,rfl,a,_,2,_,rfl,rfl,(Qc hp _).seqT ac,rfl,(98:),λc hc=>?_⟩⟩;have g2:=Qc hp (.tup [.int mo,.int m]);have g3:=Qc hc (.tup [.str Yn,.ref p,.int b]);exact q (6:) (6:) (.ref c) _ (J.trans (SameX.of (g2.trans g3))) ((g2.trans g3) _ _ Qb) (.call (SqT.of Qb) (g3 _ _ Qb))
 .have ah:lab U=.put ab k' ag:=by rw [et];rfl
  rw [BM,ah]at G;obtain⟨r,ai,G⟩:=G;refine(85:);refine⟨_,rfl,x,dx,_,rfl,Y,rfl,_,rfl,x,C,dx,_,_,rfl,Y,T.cl,T.nO,rfl,_,rfl,_,rfl,a,_,1,_,rfl,rfl,h1,rfl,nm,n',Z,wd,lm,sv,ks,t0,r,ms,m,ab,rfl,aa,hO,ai,λrv H1 J aj=>?_⟩;refine⟨_,rfl,_,rfl,x,dx,Z,wd,lm,sv,ks,t0,ms,nm,n',l,L,rv,.ref a,r,U,out,rfl,J _ _ Y,aa.same J,hO,aj,hv.mono λ_ _=>J.seqT,G,hl,λs1 s2 v H' gx ak al=>q s1 s2 v H' ((SameX.of J).trans gx) ak al,λhz H' gx=>qE hz H' ((SameX.of J).trans gx)⟩
theorem Px:FnScope ["self","rule","read","room","add","parts"] ["self","rule","read","room"] (defScope sBR):=(0:)
theorem Th{n:Nat}(F:Fun K "by_rule" "TermBehind.by_rule" sBR f fd)(G:Gm mg)(T:TbT K mg C)(RC:Fn P w K mg base 1 "is_call" ["term"] (ZF K))(MT:MtX P w K mg base C 1 "take_one" ["self","room"] (Oj C N))(MM:MtX P w K mg base C (n+2) "by_mode" ["self","mode","term","room"] (GN K C N n))(MR:MtX P w K mg base C (n+2) "by_rule" ["self","rule","read","room"] (VJ K C N n)):FnOk P w K mg base (CX1 P w) (n+3) f fd ["self","rule","read","room"] (VJ K C N (n+1)):=by
 refine Fun.okX F Px (11:) (λbt A outer s H vs Q E hr h=>?_)
 .obtain⟨x,dx,ot,wd,lm,sv,ks,t0,ms,nm,n',l,J,rv,tv,rule,ad,out,rfl,_⟩:=h
  rfl
 obtain⟨x,dx,ot,wd,lm,sv,ks,t0,ms,nm,n',l,J,rv,tv,rule,ad,out,rfl,hx,ar,hO,bb,as,Z,hl,q,qE⟩:=h;have bc:Room 1 _:=hr.mono (6:);have au:Room (n+2) _:=hr;refine⟨_,(Qh (QM (QS (QF RC hr (Qa (pv 1) Qe) (6:))) (Qi (Ql (YB (EE:=λ_=>E) MM T.cl au (YK λ_ _ h=>h) (pv 0) (Qa (20:) (Qa (Qk Qj (Qk Qj (pv 2) Qf (26:)) (20:) (26:)) (Qa (pv 3) Qe))) (7:)))) Qr)
  (Qh (QL (YB (EE:=λ_=>E) MT T.cl bc (YK λ_ _ h=>h) (pv 0) (Qa (pv 3) Qe) (7:)))
  (Qh (MK (Qz (i:=4) Px.nd rfl (32:) (Jm (QS (20:)) (Qy Za (20:) (Qk Qj (pv 2) Qf (26:))) (20:))))
  (Qh (Lr (i:=5) Si (CompG.many (xs:=["part"]) (caps:=["read","room","self"]) (cap:=[2,3,0]) (cs:=[_,_,_]) rfl rfl (1:) (1:) (1:) (1:) (1:) (1:) rfl rfl rfl) rfl (Ub (20:)) (Z7 (CompG.many (xs:=["part"]) (caps:=["read","room","self"]) (cap:=[2,3,0]) (cs:=[_,_,_]) rfl rfl (1:) (1:) (1:) (1:) (1:) (1:) rfl rfl rfl)) (92:) (λ_ _ _ _=>YB (EE:=λ_=>E) MR T.cl au O5 (pv 3) (Qa (pv 0) (Qa (pv 1) (Qa (Qy W3 (pv 2) Qf) Qe))) (7:)) Px.nd rfl rfl)
  (Qi (Ql (Qx (Qa (QJ) (Qa (20:) (Qa (U6 (20:) (Xy (Qk Qj (pv 2) Qf (26:)))) (Qa (pv 4) (Qa (QI Zz rfl G.tup PyProof.Rows.boot_tuple (Qa (pv 5) Qe)) Qe)))))))))))),?_⟩
 try dsimp only [Qn,Cx.nox]
 have i0:InsAt H x:=⟨_,_,_,hx⟩;rw [BR]at Z;obtain⟨bd,k1,a1,av,Z⟩:=Z;rcases Zv as with⟨_,_,_,rfl,rfl,_⟩ | ⟨ta,tb,bu,tn,tk,aw,rfl,be,r1,r2,r3,r4⟩
 .cases av
 have ax:lab ad=.put tn tk aw:=by rw [be];rfl
 obtain⟨rfl,rfl,rfl⟩:bd=tn/\k1=tk/\a1=aw:=by rw [av]at ax;injection ax with z1 z2 z3;exact⟨z1,z2,z3⟩
 rcases Zv bb with⟨a,mo,b,rfl,rfl,h1⟩ | ⟨a,b,bs,U,k',L,rfl,et,h1,h2,h3,h4⟩
 .obtain⟨c,bf,hc,Z⟩:=Z;obtain⟨cv,aj,ak⟩:=r3.get hc;refine⟨_,rfl,a,Yn,_,rfl,h1,_,rfl,UC rfl ?_⟩;refine⟨_,rfl,x,dx,_,rfl,hx,rfl,_,rfl,a,_,1,_,rfl,rfl,h1,rfl,_,rfl,ta,_,4,_,rfl,rfl,r1,rfl,_,rfl,a,_,2,_,rfl,rfl,h1,rfl,tb,_,_,cv,rfl,rfl,r2,(by rw [<-Int.toNat_of_nonneg bf];exact Qo aj),_,rfl,?_⟩;exact⟨x,dx,ot,wd,lm,sv,ks,t0,ms,nm,n',l,J,cv,mo,c,out,rfl,hx,ar,hO,ak,Z,hl,q,qE⟩
 have bg:lab rule=.put U k' L:=by rw [et];rfl
 rw [bg]at Z;obtain⟨os,rfl,bv,Z⟩:=Z;have al:=WD (63:);have ay:=Q8 (63:);have bq:=h3.length;refine(85:);refine⟨_,rfl,x,dx,_,rfl,hx,rfl,_,rfl,x,dx,ot,l,J,rfl,hx,λbw bx=>?_,λhz=>qE (λz=>hz ⟨by lia,by lia⟩) H (SameX.refl _ _)⟩;have g1:SameX x H (upd H x (.ins C dx (tbf ot (l-1)))):=SameX.upd;have af:upd H x (.ins C dx (tbf ot (l-1))) x=some (.ins C dx (tbf ot (l-1))):=Qb;generalize upd H x (.ins C dx (tbf ot (l-1)))=H1 at g1 af ⊢;have ag:=i0.seqT g1 h1;have bi:=i0.seqT g1 r1;have az:=i0.seqT g1 h2;have i1:InsAt H1 x:=⟨_,_,_,af⟩;refine⟨λbr H'=>H'=H1/\br=[some (.ref x),some (.ref a),some (.ref ta),some (.int (J:Int)),some (.int (if k'=true then L+a1 else L)),none],?_,?_⟩
 .refine⟨_,rfl,a,_,2,_,rfl,rfl,ag,rfl,k',rfl,?_⟩;cases k' with
  | true=>exact Zk ⟨_,rfl,a,_,3,_,rfl,rfl,ag,rfl,_,rfl,ta,_,3,_,rfl,rfl,bi,rfl,_,_,rfl,rfl,rfl,rfl⟩
  | false=>exact Zn ⟨_,rfl,a,_,3,_,rfl,rfl,ag,rfl,rfl,rfl⟩
 rintro _ H2 ⟨e1,rfl⟩;rw [e1];clear e1;refine⟨_,rfl,a,_,4,_,rfl,rfl,ag,rfl,b,rfl,⟨_,az⟩,λacc aa=>?_⟩;have a0:acc≠x:=λz=>by rw [z,af]at aa;cases aa
 refine XX (K:=K) (xs:=bs) (cs:=[some (.ref ta),some (.int (J:Int)),some (.ref x)]) (tt:=λ_ H Q=>Q true H) (λi ys H'=>H' acc=some (.lst ys)/\SameX x H1 H'/\ys.length=i/\szs (os.take i)<=l-1/\(∀u∈os.take i,lv u<=J-1)/\H' x=some (.ins C dx (tbf ot (l-1-szs (os.take i))))/\TpAll K H' ys (os.take i))
  ⟨Qb,SameX.of (Qc aa _),rfl,(by simp [szs]),(λu hu=>by simp at hu),(by rw [Qg (Ne.symm a0)];exact af),.nil⟩ ?_ ?_ ?_
 .rintro i ys H' _ ⟨_,g,_⟩;exact i1.seqT g az
 .rintro i y ys H' hi hy ⟨ah,g,a6,a7,ab,am,ac⟩;obtain⟨c,hc⟩: ∃c,rule.bs[i]?=some c:=(41:);have a8:i<os.length:=by lia
  obtain⟨cv,aj,ak⟩:=h3.get hc;obtain rfl:cv=y:=Option.some.inj (aj.symm.trans hy);have ho:=List.getElem?_eq_getElem a8;have a3:szs (os.take (i+1))=szs (os.take i)+sz os[i]:=by rw [List.take_add_one,ho,UL];simp [szs]
  have a4:=Wg os (i+1);have a5:=WJ (List.getElem_mem a8);have an:Tree.bs (63:)=os:=rfl;rw [an]at al ay;have gH:SameX x H H':=g1.trans g;refine Zk ⟨_,rfl,x,dx,_,rfl,am,rfl,_,rfl,_,rfl,_,rfl,_,_,rfl,rfl,?_⟩;refine⟨x,dx,ot,wd,lm,sv,ks,t0,ms,nm,n',l-1-szs (os.take i),J-1,cv,.ref ta,c,ad,os[i],?_,am,ar.insX i0 gH,hO,ak.mono λ_ _=>i0.seqT gH,as.mono λ_ _=>i0.seqT gH,Z i c _ hc ho,by lia,λz1 z2 v' H4 g4 bj bn=>?_,λhz H4 g4=>qE (λ⟨z1,z2⟩=>hz ⟨by lia,by lia⟩) H4 (gH.trans g4)⟩
  .show [V.ref x,cv,.ref ta,.int ((J:Int)-1)]=_;rw [show((J:Int)-1)=((J-1:Nat):Int)by lia]
  have i':InsAt H' x:=⟨_,_,_,am⟩;have ae:=i'.lst g4 ah;refine QB (ys:=ys) hi ae (6:) ⟨Qb,λz u nz e=>?_,by simp [a6],by lia,λu hu=>?_,?_,?_⟩
  .rw [Qg (Qd e aa)];exact g4 _ _ nz (g _ _ nz e)
  .rw [List.take_add_one,ho]at hu;rcases List.mem_append.mp hu with z | z
   .exact ab u z
   .obtain rfl:u=os[i]:=by simpa using z
    exact z2
  .rw [Qg (Ne.symm a0),bj,a3,Nat.sub_add_eq]
  .rw [List.take_add_one,ho];exact TpAll.append (ac.mono ((KeepT.ins i' g4).trans (KeepT.put ae))) (.cons (bn.mono (KeepT.put ae)) .nil)
 rintro ys H3 ⟨ah,g,a6,a7,ab,ai,ac⟩;have an:Tree.bs (63:)=os:=rfl;rw [an]at al ay;have bo:os.take bs.length=os:=List.take_of_length_le (6:);rw [bo]at ai ac a7 ab;have ab:=Vq ab;have gH:SameX x H H3:=g1.trans g;have a9:=i0.seqT gH h1;have bp:=i0.seqT gH r1;have q:=q (6:) (6:);rw [al]at q;have ba:l-1-szs os=l-(1+szs os):=by lia
 rw [ba]at ai;refine⟨_,rfl,a,_,1,_,rfl,rfl,a9,rfl,_,rfl,a,_,2,_,rfl,rfl,a9,rfl,k',rfl,?_⟩;cases k' with
 | true=>
  refine Zk ⟨_,rfl,ta,_,2,_,rfl,rfl,bp,rfl,_,rfl,_,rfl,acc,ys,rfl,.inl ⟨SqL.of ah,λpt ao=>⟨(by show 5<=sizeLine;decide),λpr ap=>?_⟩⟩⟩;have aq:=Qc ao (.tup ys);have k2:=Qc ap (.tup [.str PUT,.str U,.bl k1,.int (L+a1),.ref pt]);have Y:=aq.trans k2;exact q (.ref pr) _ (gH.trans (SameX.of Y)) (Y _ _ ai) (.put (SqT.of Qb) (k2.seqT (SqT.of Qb)) (ac.mono (KeepT.same Y)) (6:))
 | false=>
  refine Zn ⟨_,rfl,_,rfl,acc,ys,rfl,.inl ⟨SqL.of ah,λpt ao=>⟨(by show 5<=sizeLine;decide),λpr ap=>?_⟩⟩⟩;have aq:=Qc ao (.tup ys);have k2:=Qc ap (.tup [.str PUT,.str U,.bl false,.int L,.ref pt]);have Y:=aq.trans k2;exact q (.ref pr) _ (gH.trans (SameX.of Y)) (Y _ _ ai) (.put (SqT.of Qb) (k2.seqT (SqT.of Qb)) (ac.mono (KeepT.same Y)) (6:))
end
end K65
namespace K65
open PySem L2 TM TT K9 K11
def tb1(ot:Addr):List (Str×V):=[("other",.ref ot)]
theorem AI(ot:Addr):Q6 "other" (.ref ot) []=tb1 ot:=rfl
theorem Au(ot:Addr):Q6 "left" (.int 200) (tb1 ot)=tbf ot 200:=by
 unfold tb1;rw [QU (1:)];rfl
def Ti(C:Addr):Sp:=λvs H Q _=>∃(x dx ot:Addr),vs=[.ref x,.ref ot]/\H x=some (.ins C dx [])/\Q .non (upd (upd H x (.ins C dx (tb1 ot))) x (.ins C dx (tbf ot 200)))
def Jj(ru:Int->Str->Option Tm)(n:Nat)(j:Int)(rs:List Tm)(os:List TP):Prop:=os.length=rs.length/\∀(i:Nat) t o,rs[i]?=some t->os[i]?=some o->BM ru n j t o
def Y4(o:TP):Prop:=sz o<=200/\lv o<=30
structure TbM(P:Program)(w:World)(K:Fg)(mg:Str->Option Value)(base:Heap)(C N:Addr)(n:Nat):Prop where
 t:TbT K mg C
 mi:∃f fd,Mk K C f/\FnOk P w K mg base CX0 1 f fd ["self","other"] (Ti C)/\Binds K fd ["self","other"] []
 bm:MtX P w K mg base C (n+2) "by_mode" ["self","mode","term","room"] (GN K C N n)
 br:MtX P w K mg base C (n+2) "by_rule" ["self","rule","read","room"] (VJ K C N n)
def XV(K:Fg)(N:Addr)(n:Nat):Sp:=λvs H Q E=>∃(on ot wd1 wd2 lm1 lm2 pp:Addr)(sv1 sv2:V)(ks1 ks2:List KdT)(t1 t2:Tm)(ms1 ms2:List MoT)(nm2 n2:Nat)(i:Nat)(j:Int)(mo:MoT)(os:List TP),vs=[.ref on,.ref ot,.ref pp]/\SqT K H pp [.int (i:Int),.int j]/\TuAt K H on wd1 sv1 lm1 ks1 t1 ms1/\TuAt K H ot wd2 sv2 lm2 ks2 t2 ms2/\TuOk ks2 nm2 n2 t2 ms2/\ms1[i]?=some mo/\mo.2.2.2.2.length<=100/\Jj (ruK ks2 ms2) n j mo.2.2.2.2 os/\
 ((∀o∈os,Y4 o)->∀(p lr:Addr)(ws:List V)(H':Hp),Same H H'->H' p=some (.tup [.str mo.2.1,.ref lr])->H lr=none->H' lr=some (.lst ws)->TpAll K H' ws os->Q (.ref p) H')/\(¬(∀o∈os,Y4 o)->∀H':Hp,Same H H'->E (.ref N) none H')
section
variable{P:Program}{w:World}{K:Fg}{mg:Str->Option Value}{base:Heap}{f:Addr}{fd:FuncData}{C N:Addr}
theorem OQ{k:Nat}:FnOk P w K mg base (CX1 P w) k f fd ["self","rule","read","room"] (VJ K C N 0):=by
 have G:∀vs H Q E,¬VJ K C N 0 vs H Q E:=λvs H Q E h=>by
  obtain⟨x,dx,Z,wd,lm,sv,ks,t0,ms,nm,n',l,L,rv,tv,rule,U,out,_,_,_,_,_,_,J,_⟩:=h;rw [BR]at J;exact J
 exact⟨λvs H Q E h=>absurd h (G vs H Q E),λA outer s H Y us vs Q E _ _ _ _ h=>absurd h (G vs H Q E)⟩
theorem NY{k:Nat}:FnOk P w K mg base (CX1 P w) k f fd ["self","mode","term","room"] (GN K C N 0):=by
 have G:∀vs H Q E,¬GN K C N 0 vs H Q E:=λvs H Q E h=>by
  obtain⟨x,dx,Z,wd,lm,sv,ks,t0,ms,nm,n',l,L,tv,m,U,out,_,_,_,_,_,J,_⟩:=h;rw [BM]at J;exact J
 exact⟨λvs H Q E h=>absurd h (G vs H Q E),λA outer s H Y us vs Q E _ _ _ _ h=>absurd h (G vs H Q E)⟩
theorem Pq{fM fR:Addr}{fdM fdR:FuncData}(FM:Fun K "by_mode" "TermBehind.by_mode" sBM fM fdM)(FR:Fun K "by_rule" "TermBehind.by_rule" sBR fR fdR)(G:Gm mg)(T:TbT K mg C)(RC:Fn P w K mg base 1 "is_call" ["term"] (ZF K))(RR:Fn P w K mg base 2 "rule_of" ["turning","mode","name"] (QV K))(MT:MtX P w K mg base C 1 "take_one" ["self","room"] (Oj C N))
 (mM:Meth K C "by_mode" fM) (bM:Binds K fdM ["self","mode","term","room"] []) (mR:Meth K C "by_rule" fR) (bR:Binds K fdR ["self","rule","read","room"] []):∀n:Nat,MtX P w K mg base C (n+2) "by_mode" ["self","mode","term","room"] (GN K C N n)/\MtX P w K mg base C (n+2) "by_rule" ["self","rule","read","room"] (VJ K C N n)
 | 0=>⟨⟨fM,fdM,mM,NY,bM⟩,⟨fR,fdR,mR,OQ,bR⟩⟩
 | n+1=>
  have J:=Pq FM FR G T RC RR MT mM bM mR bR n
  ⟨⟨fM,fdM,mM,SR FM T RC RR MT J.2,bM⟩,⟨fR,fdR,mR,Th FR G T RC MT J.1 J.2,bR⟩⟩
theorem Ag:FnScope ["self","other"] ["self","other"] (defScope sTI):=(0:)
theorem SL(F:Fun K "__init__" "TermBehind.__init__" sTI f fd)(T:TbT K mg C){t200:Tok}(h200:mg "MOST_SIZE"=some (.int 200 t200)):FnOk P w K mg base CX0 1 f fd ["self","other"] (Ti C):=by
 refine F.ok Ag (11:) (λL A outer s H vs Q E U h=>?_)
 .obtain⟨x,dx,G,rfl,_⟩:=h
  rfl
 obtain⟨x,dx,G,rfl,J,q⟩:=h;refine⟨_,(Qh (Z1 (pv 0) (pv 1) rfl)
  (Qi (Z1 (pv 0) (Ye (v:=.int 200) rfl h200 (51:)) rfl))),?_⟩
 try dsimp only [Qn,Cx.nox]
 refine⟨_,rfl,_,rfl,x,C,dx,_,rfl,J,T.cl,T.nO,(by show 0<1000;decide),?_⟩;refine⟨_,rfl,x,C,dx,_,rfl,Qb,T.cl,T.nL,(by show 1<1000;decide),?_⟩;rw [AI,Au];exact q
theorem V7:FnScope ["one","other","pair","mode"] ["one","other","pair"] (defScope Xv):=(0:)
theorem LR{n:Nat}(F:Fun K "mode_behind" "mode_behind" Xv f fd)(M:TbM P w K mg base C N n){t30:Tok}(h30:mg "MOST_LEVELS"=some (.int 30 t30)):FnOk P w K mg base (CX1 P w) (n+3) f fd ["one","other","pair"] (XV K N n):=by
 obtain⟨fI,a4,ao,FI,bI⟩:=M.mi;have T:=M.t;refine Fun.okX F V7 (11:) (λa5 A outer s H vs Q E hr h=>?_)
 .obtain⟨on,G,ap,af,ag,ah,pp,aq,ai,ks1,ks2,t1,t2,ms1,ms2,aj,n2,i,j,J,os,rfl,_⟩:=h
  rfl
 obtain⟨on,G,ap,af,ag,ah,pp,aq,ai,ks1,ks2,t1,t2,ms1,ms2,aj,n2,i,j,J,os,rfl,ak,ab,ar,as,al,a6,ac,q,qE⟩:=h;have au:Room 2 _:=hr.mono (6:);refine⟨_,(Qh (Qz (i:=3) V7.nd rfl (32:) (Qk QP (4:) (Qk Qj (pv 2) Qf (26:)) (26:)))
  (Qi (Ql (Qx (Qa (93:) (Qa (VF Si (CompG.many (xs:=["rule"]) (caps:=["other","pair"]) (cap:=[1,2]) (cs:=[_,_]) rfl rfl (1:) (1:) (1:) (1:) (1:) (1:) rfl rfl rfl) rfl (QG (93:)) (Z7 (CompG.many (xs:=["rule"]) (caps:=["other","pair"]) (cap:=[1,2]) (cs:=[_,_]) rfl rfl (1:) (1:) (1:) (1:) (1:) (1:) rfl rfl rfl)) (92:) (λ_ _ _ _=>YB (EE:=λ_=>E) M.bm T.cl hr O5 (X8 ao FI au rfl T.mgC bI .nil Yq (Qa (pv 1) Qe)) (Qa (Qk (r:=Sn K) Qj (pv 2) Qf (26:)) (Qa (pv 0) (Qa (Ye (v:=.int 30) rfl h30 (51:)) Qe))) (7:))) Qe)))))),?_⟩
 try dsimp only [Qn,Cx.nox]
 have av:atI (ms1.map λm=>V.ref m.1) (i:Int)=some (.ref J.1):=Qo (by rw [List.getElem?_map,al];rfl);have aw:=List.mem_of_getElem? al;obtain⟨m1,m2,m3⟩:=ab.mo _ aw;obtain⟨a7,ac⟩:=ac;have a3:=m3.length;refine⟨_,rfl,on,_,2,_,rfl,rfl,ab.tu,rfl,_,rfl,pp,_,0,_,rfl,rfl,ak,rfl,ag,_,_,_,rfl,rfl,ab.lm,av,?_⟩;refine⟨_,rfl,J.1,_,0,_,rfl,rfl,m1,rfl,_,rfl,J.1,_,1,_,rfl,rfl,m1,rfl,J.2.2.1,rfl,⟨_,m2⟩,λacc L=>?_⟩;refine Yl (K:=K) (xs:=J.2.2.2.1) (cs:=[some (.ref G),some (.ref pp)]) (tt:=λ_ H Q=>Q true H) (λi ys H'=>H' acc=some (.lst ys)/\Same H H'/\ys.length=i/\(∀o∈os.take i,Y4 o)/\TpAll K H' ys (os.take i))
  ⟨Qb,Qc L _,rfl,(λo ho=>by simp at ho),.nil⟩ ?_ ?_ ?_
 .rintro i ys H' _ ⟨_,g,_⟩;exact g.seq m2
 .rintro i y ys H' hi hy ⟨ad,g,am,Y,Z⟩;have an:i<J.2.2.2.2.length:=by lia
  have aa:i<os.length:=by lia
  obtain⟨cv,ax,ay⟩:=m3.get (List.getElem?_eq_getElem an);obtain rfl:cv=y:=Option.some.inj (ax.symm.trans hy);have o1:=ac i _ _ (List.getElem?_eq_getElem an) (List.getElem?_eq_getElem aa);refine Zk ⟨_,rfl,λx dx nx az ne=>⟨x,dx,G,rfl,Qb,rfl,?_⟩⟩;have s5:Same H' (upd (upd (upd (upd H' dx (.own x)) x (.ins C dx [])) x (.ins C dx (tb1 G))) x (.ins C dx (tbf G 200))):=λb o e=>by
   rw [Qg (Qd e nx),Qg (Qd e nx),Qg (Qd e nx),Qg (Qd e az)];exact e
  have ae:upd (upd (upd (upd H' dx (.own x)) x (.ins C dx [])) x (.ins C dx (tb1 G))) x (.ins C dx (tbf G 200)) x=some (.ins C dx (tbf G 200)):=Qb;generalize upd (upd (upd (upd H' dx (.own x)) x (.ins C dx [])) x (.ins C dx (tb1 G))) x (.ins C dx (tbf G 200))=H5 at s5 ae ⊢;have g5:=g.trans s5;refine⟨x,dx,_,rfl,ae,rfl,_,rfl,pp,_,1,_,rfl,rfl,g5.seqT ak,rfl,_,rfl,?_⟩;refine⟨x,dx,G,af,ah,ai,ks2,t2,ms2,aj,n2,200,30,cv,j,_,os[i],rfl,ae,ar.same g5,as,ay.mono λ_ _=>g5.seqT,o1,by decide,λo2 o3 v H6 gx a8 a0=>?_,λhz H6 gx=>qE (λz=>hz (z _ (List.getElem_mem aa))) H6 (g.trans λb o e=>gx b o (Qd e nx) (s5 b o e))⟩;have s6:Same H' H6:=λb o e=>gx b o (Qd e nx) (s5 b o e);have U:=s6 _ _ ad;refine QB (ys:=ys) hi U (6:) ⟨Qb,λz u e=>?_,by simp [am],λo ho=>?_,?_⟩
  .rw [Qg (Qd e L)];exact s6 _ _ (g _ _ e)
  .rw [List.take_add_one,List.getElem?_eq_getElem aa]at ho;rcases List.mem_append.mp ho with z | z
   .exact Y o z
   .obtain rfl:o=os[i]:=by simpa using z
    exact⟨o2,o3⟩
  .rw [List.take_add_one,List.getElem?_eq_getElem aa];exact TpAll.append (Z.mono ((KeepT.same s6).trans (KeepT.put U))) (.cons (a0.mono (KeepT.put U)) .nil)
 rintro ys H3 ⟨ad,g,am,Y,Z⟩;have a1:os.take J.2.2.2.1.length=os:=List.take_of_length_le (6:);rw [a1]at Z Y;refine⟨(30:),λp hp=>?_⟩;have k1:=Qc hp (.tup [.str J.2.1,.ref acc]);exact q Y p acc ys _ (g.trans k1) Qb L (k1 _ _ ad) (Z.mono (KeepT.same k1))
end
end K65
namespace L2
namespace LD
open PySem PySem.Spec PyProof.Rows PySem.W
def DEnt(h:Heap)(d:Addr)(ents:Array DictEntry)(ep:Nat):Prop:=∃o,h.get? d=some o/\o.ExactDict/\o.data=.dict ents ep
section
variable{prog:Program}{w:World}{A:Around}{E:Value->Shared->Prop}{s:Shared}{d it:Addr}{ents:Array DictEntry}{ep i:Nat}
theorem DEnt.ty(x:DEnt s.heap d ents ep):s.TypeIs (.ref d) "dict":=by
 obtain⟨o,g,e,_⟩:=x;exact⟨o,g,e.1⟩
theorem DEnt.lt{h:Heap}(x:DEnt h d ents ep):d<h.objs.size:=by
 obtain⟨o,g,_⟩:=x;exact Heap.lt_size g
theorem GT{Q:Value->Shared->Prop}(lo:(d==sysModules)=false)(x:DEnt s.heap d ents ep)
 (fin:Q (.ref s.heap.objs.size) { s with heap:=s.heap.push { cls:=.type "dict_keyiterator",data:=.fields #[.ref d,.int 0 0,.int ents.size 0,.int ep 0] } }):wpAny (27:) A (pyIter (.ref d)) Q E s:=by
 have ty:=x.ty;obtain⟨o,g,ex,G⟩:=x;refine wpAny_pyIter_slot ty F.slot_dict_iter (wpAny_call_entry F.slot_dict_iter ty F.entry_dict_iter ?_ (F.args_dict_iter_1 _));unfold Builtin.«dict.__iter__» Builtin.Dict.dictSlotNone;refine wpAny_bind (wpAny_bind (wpAny_notOrdered_dict ty (show wpAny _ _ (pure (Value.ref d)) _ _ s from wpAny_pure ?_)));show wpAny _ _ (Builtin.Dict.showsAll d>>=_) _ _ s;unfold Builtin.Dict.showsAll;rw [if_neg (by rw [lo];exact Bool.false_ne_true)];refine wpAny_bind (wpAny_pure (wpAny_bind (wpAny_dictEntries g G (wpAny_bind (wpAny_dictEpoch g G ?_)))));refine wpAny_bind (wpAny_newObj_type (wpAny_pure ⟨_,rfl,"dict_keyiterator",_,⟨_,Heap.get?_push_size _ rfl,rfl⟩,F.slot_dict_keyiterator_next.lookup,?_⟩))
 simpa [rawInt]using fin
theorem G7{t:DictEntry}{Q:Option Value->Shared->Prop}(hI:s.heap.IsKeyIter it d i ents.size ep)(x:DEnt s.heap d ents ep)(at_i:ents[i]?=some t)
 (fin:∀h2,h2.IsKeyIter it d (i+1) ents.size ep->Heap.SameBut it s.heap h2->Q (some t.key) { s with heap:=h2 }):wpAny (27:) A (pyNext (.ref it)) Q E s:=by
 obtain⟨oi,U,ci,G⟩:=id hI;obtain⟨od,Z,aa,J⟩:=id x;unfold pyNext;refine wpAny_bind (wpAny_attempt (wpAny_callSpecial?_slot (name:=Str.ofString "__next__") hI.typeIs F.slot_dict_keyiterator_next (wpAny_call_entry F.slot_dict_keyiterator_next hI.typeIs F.entry_dict_keyiterator_next ?_ (F.args_dict_keyiterator_next_1 _))));refine wpAny_bind (wpAny_pure (wpAny_bind (wpAny_bind ?_)))
 first | refine wpAny_bind (wpAny_typeNameOfWhole_keyiter hI.typeIs (66:)) | refine wpAny_bind (wpAny_typeNameOf_keyiter hI.typeIs (66:))
 refine wpAny_bind (wpAny_fieldsOf U G ?_);have Y:Builtin.Dict_items.ownsTuple "dict_keyiterator"=false:=by decide
 simp only [Y,Bool.false_eq_true,if_false];show wpAny _ _ (if(Value.ref d==Value.none)=true then _ else _) _ _ s;rw [if_neg (show ¬((Value.ref d==Value.none)=true)from Bool.false_ne_true)];refine wpAny_bind (wpAny_pure (wpAny_bind (wpAny_dictEntries Z J ?_)));rw [if_neg (21:)];refine wpAny_bind (wpAny_pure (wpAny_bind (wpAny_dictEpoch Z J ?_)));rw [if_neg (21:)];refine wpAny_pure ?_;simp only [show ¬((i:Int)<0)from by lia,if_false,Int.toNat_natCast,at_i];refine wpAny_bind ?_
 first | refine wpAny_bind (wpAny_typeNameOfWhole_keyiter hI.typeIs (66:)) | refine wpAny_bind (wpAny_typeNameOf_keyiter hI.typeIs (66:))
 refine wpAny_bind (wpAny_isOneOf_keyiter hI.typeIs ?_);show wpAny _ _ (setField (.ref it) 1 (rawInt ((i:Int)+1))>>=_) _ _ s;refine wpAny_bind (wpAny_setField U G (21:) ?_);have L:(s.heap.update it (Obj.mapFields (·.setIfInBounds 1 (rawInt ((i:Int)+1))))).IsKeyIter it d (i+1) ents.size ep:=by
  refine⟨_,Heap.get?_update_self _ U (Obj.isFreed_of_fields (Obj.data_mapFields G _)),(Obj.cls_mapFields ..).trans ci,?_⟩;rw [Obj.data_mapFields G];simp [rawInt]
 refine wpAny_bind (wpAny_holding (wpAny_bind (wpAny_isOneOf_keyiter (s:={ s with heap:=s.heap.update it (Obj.mapFields (·.setIfInBounds 1 (rawInt ((i:Int)+1)))) }) L.typeIs ?_)));show wpAny _ _ (pure t.key) _ _ _;exact wpAny_pure (wpAny_pure ⟨_,rfl,wpAny_pure (fin _ L (Heap.SameBut.update ..))⟩)
theorem Mg{Q:Option Value->Shared->Prop}(hh:A.handled=none)(hI:s.heap.IsKeyIter it d ents.size ents.size ep)(x:DEnt s.heap d ents ep)(fin:∀h2,Heap.ExtBut it s.heap h2->Q none { s with heap:=h2 }):wpAny (27:) A (pyNext (.ref it)) Q E s:=by
 obtain⟨oi,L,ci,U⟩:=id hI;obtain⟨od,Y,Z,G⟩:=id x;unfold pyNext;refine wpAny_bind (wpAny_attempt (wpAny_callSpecial?_slot (name:=Str.ofString "__next__") hI.typeIs F.slot_dict_keyiterator_next (wpAny_call_entry F.slot_dict_keyiterator_next hI.typeIs F.entry_dict_keyiterator_next ?_ (F.args_dict_keyiterator_next_1 _))));refine wpAny_bind (wpAny_pure (wpAny_bind (wpAny_bind ?_)))
 first | refine wpAny_bind (wpAny_typeNameOfWhole_keyiter hI.typeIs (66:)) | refine wpAny_bind (wpAny_typeNameOf_keyiter hI.typeIs (66:))
 refine wpAny_bind (wpAny_fieldsOf L U ?_);have J:Builtin.Dict_items.ownsTuple "dict_keyiterator"=false:=by decide
 simp only [J,Bool.false_eq_true,if_false];show wpAny _ _ (if(Value.ref d==Value.none)=true then _ else _) _ _ s;rw [if_neg (show ¬((Value.ref d==Value.none)=true)from Bool.false_ne_true)];refine wpAny_bind (wpAny_pure (wpAny_bind (wpAny_dictEntries Y G ?_)));rw [if_neg (21:)];refine wpAny_bind (wpAny_pure (wpAny_bind (wpAny_dictEpoch Y G ?_)));rw [if_neg (21:)];refine wpAny_pure ?_;simp only [show ¬(((ents.size:Nat):Int)<0)from by lia,if_false,Int.toNat_natCast,Array.getElem?_eq_none (7:)];refine wpAny_bind ?_
 first | refine wpAny_bind (wpAny_typeNameOfWhole_keyiter hI.typeIs (66:)) | refine wpAny_bind (wpAny_typeNameOf_keyiter hI.typeIs (66:))
 show wpAny _ _ (setField (.ref it) 0 .none>>=_) _ _ s;refine wpAny_bind (wpAny_setField L U (21:) ?_);show wpAny _ _ (newExc (.type "StopIteration") []>>=_) _ _ _;refine wpAny_bind ?_;simp only [newExc,newTuple];refine wpAny_bind (wpAny_newObj_type ?_ (by size_fits));refine wpAny_bind (m:=firstArgMember _ _) (wpAny_of_eq (a:=Value.none) (by first | rfl | (simp only [firstArgMember];rfl)) ?_);refine wpAny_newObj_type ?_ (by size_fits);simp only [raiseNew];refine wpAny_bind (wpAny_handled ?_);rw [show A.in1.handled=none from hh];refine wpAny_bind (wpAny_pure (wpAny_throw ?_));refine wpAny_bind (wpAny_isInstance (T:="StopIteration") (b:=true) ⟨_,Heap.get?_push_size _ rfl,rfl⟩ isSubtype_stop ?_);exact wpAny_pure (fin _ (((Heap.SameBut.update ..).extBut.push _).push _))
theorem Lk(hh:A.handled=none)(ne:d≠it):Walks prog w A it [it,d] [it] ents.size (λi v=>∃t,ents[i]?=some t/\v=t.key) (λi h=>h.IsKeyIter it d i ents.size ep/\DEnt h d ents ep) where
 sub:=λb G=>by simp at G;simp [G]
 frame:=λ_ h h2 st k=>by
  obtain⟨⟨U,Z,ri⟩,J,L,rd⟩:=st;exact⟨⟨U,k it (21:) U Z,ri⟩,J,k d (21:) J L,rd⟩
 item:=λi s Q E hi st fin=>by
  refine G7 st.1 st.2 (Array.getElem?_eq_getElem hi) λh2 I2 Y=>?_;obtain⟨J,L,rd⟩:=st.2;refine fin _ h2 s.toks ⟨_,Array.getElem?_eq_getElem hi,rfl⟩ ⟨I2,J,Y.extBut d J ne L,rd⟩ λb o G e=>Y.extBut b o (λz=>G (by simp [z])) e
 done:=λs Q E st fin=>Mg hh st.1 st.2 λh2 he=>fin h2 s.toks λb o G e=>he b o (λz=>G (by simp [z])) e
 self:=λ_ _ _ _ st fin=>wpAny_pyIter_keyiter st.1 fin
theorem Mh(lo:(d==sysModules)=false):KdlSrc prog w "dict" d d ents.size (λi v=>∃t,ents[i]?=some t/\v=t.key) (λh=>DEnt h d ents ep) where
 type:=λ_ x=>x.ty
 there:=λ_ x=>⟨x.lt,x.lt⟩
 keep:=λ_ _ x k=>by
  obtain⟨o,g,r⟩:=x;exact⟨o,k d (.inl rfl) o g,r⟩
 notList:=by decide
 notTuple:=by decide
 hint:=λ_ _ _ _ x q=>kdl_hint_dict x.ty q
 iter:=λ_ _ G x=>⟨_,_,(λ_ _ q=>GT lo x q),Lk G (Nat.ne_of_lt x.lt),⟨⟨_,Heap.get?_push_size _ rfl,rfl,rfl⟩,by
  obtain⟨o,g,r⟩:=x;exact⟨o,Heap.get?_push_of_some _ g,r⟩⟩⟩
end
theorem J2{α:Type}{l:Array α}{m:List α}(h:l.toList=m):l.size=m.length:=by rw [<-h,Array.length_toList]
section
variable{X:Cx}
theorem call_listDT(hc:X.calm=true):QR X (.type "list") (λxs H Q=>∃(d:Addr)(kvs:List (88:))(cs:List (Int×Int)),xs=[.ref d]/\H d=some (.dT kvs)/\kvs.map (·.1)=cs.map (λc=>[Sum.inl c.1,Sum.inl c.2])/\
 ∀(out:List (Addr×Int×Int)) p,out.map (·.2)=cs->(∀t∈out,H t.1=some (.tup [.int t.2.1,.int t.2.2]))->H p=none->Q (.ref p) (upd H p (.lst (out.map λt=>V.ref t.1)))):=by
 intro pins s σ H xs us Q I r h;obtain⟨d,kvs,cs,rfl,hd,L,q⟩:=h;cases r with
 | cons r rr=>
  cases rr;obtain rfl:_=Value.ref d:=r;obtain⟨z,lo,ys,U,hD⟩:=Nd I.hok hd;have Y:kvs.length=cs.length:=by have:=congrArg List.length L;simpa using this
  have aa:=Paired.length U;obtain⟨o,ents,ep,g1,g2,g3,Z,g5,g6⟩:=hD;have ab:ents.size=ys.length:=by rw [J2 Z,List.length_map]
  have ac:∃G:List (Addr×Int×Int),ents.toList.map (·.key)=(G.map λt=>Value.ref t.1)/\G.map (·.2)=cs/\∀t∈G,H t.1=some (.tup [.int t.2.1,.int t.2.2]):=by
   rw [Z,List.map_map];clear Z g5 g6 ab aa z hd Y q
   induction U generalizing cs with
   | nil=>
    cases cs with
    | nil=>exact⟨[],rfl,rfl,λt ht=>(nomatch ht)⟩
    | cons _ _=>cases L
   | @cons p y ps ys h t ih=>
    cases cs with
    | nil=>cases L
    | cons c cs=>
     rw [List.map_cons,List.map_cons]at L;injection L with k1 k2;obtain⟨G,e1,e2,e3⟩:=ih cs k2;refine⟨(y.2.1,c.1,c.2)::G,by rw [List.map_cons,List.map_cons,e1];rfl,by rw [List.map_cons,e2],λt ht=>?_⟩;rcases List.mem_cons.mp ht with rfl | ht
     .have:=h.2.1;rw [k1]at this;exact this
     .exact e3 t ht
  obtain⟨G,e1,e2,e3⟩:=ac;refine PySem.W.kdl_call (Mh (ents:=ents) (ep:=ep) lo) (I.ok.hd hc) ⟨o,g1,g2,g3⟩ (6:) λh1 tk acc c' keep ad its=>?_;have e:acc.toList=ents.toList.map (·.key):=by
   refine List.ext_getElem? λj=>?_;rw [List.getElem?_map,Array.getElem?_toList,Array.getElem?_toList]
   by_cases hj:j<ents.size
   .have J:j<acc.size:=by rw [its.1];exact hj
    obtain⟨t,e1,e2⟩:=its.2 j _ (Array.getElem?_eq_getElem J);rw [Array.getElem?_eq_getElem J,e1,e2];rfl
   .have J:¬j<acc.size:=by rw [its.1];exact hj
    rw [Array.getElem?_eq_none (Nat.not_lt.mp J),Array.getElem?_eq_none (Nat.not_lt.mp hj)];rfl
  have ae:H s.heap.objs.size=none:=I.hok.fresh (7:);refine⟨.ref s.heap.objs.size,_,I.laid (t':=tk) (o:=.lst (G.map λt=>V.ref t.1)) keep (7:) ?_,rfl,q G _ e2 e3 ae⟩;have af:G.length=kvs.length:=by have:=congrArg List.length e2;rw [List.length_map]at this;lia
  refine⟨by rw [List.length_map];lia,acc.toList,c',?_,by rw [Array.toArray_toList];exact ad⟩;rw [e,e1];clear e1 e2 e3 af
  induction G with
  | nil=>exact .nil
  | cons t r ih=>exact .cons rfl ih
end
theorem Jl{prog:Program}{w:World}{d:Addr}(hd:(d==sysModules)=false):
 MeetsIn prog w (Builtin.«dict.__len__» ⟨[.ref d],[]⟩) (λ_ R s=>∃ents ep,DEnt s.heap d ents ep/\R (.ok (.ret (.int ents.size s.toks))) { s with toks:=s.toks+1 }):=
 .of_wp λA R s ⟨ents,ep,J,h⟩=>by
  obtain⟨o,L,U,G⟩:=J;show wpAny _ _ (dictSize d>>=_) _ _ s;unfold dictSize;refine wpAny_bind (wpAny_bind (wpAny_dictEntries L G (66:)));show wpAny _ _ (Builtin.Dict.pendingCount d>>=_) _ _ s;refine wpAny_bind (wpAny_pendingCount_other hd ?_);refine wpAny_ret_mkInt ?_;rw [Nat.add_zero];exact h
theorem JF{prog:Program}{w:World}{A:Around}{E:Value->Shared->Prop}{s:Shared}{d:Addr}{ents:Array DictEntry}{ep:Nat}{Q:Value->Shared->Prop}(hd:(d==sysModules)=false)(hm:DEnt s.heap d ents ep)(hfit:(ents.size:Int)<2^63)
 (h:Q (.int ents.size (s.toks+1)) { s with toks:=s.toks+1+1 }):wpAny (27:) A (call (.builtin "len") [.ref d]) Q E s:=by
 refine Calls.call_function_entry kind_len plain_len entry_len (args_len1 _) ?_;unfold Builtin.«len»;refine wpAny_bind (m:=oneArg "len" _) (66:);refine wpAny_bind (m:=callSpecial? (.ref d) (Str.ofString "__len__")) (wpAny_callSpecial?_slot (name:=Str.ofString "__len__") hm.ty F.slot_dict_len
  (call_meetsIn F.slot_dict_len hm.ty F.entry_dict_len (F.args_dict_len_1 _) (Jl hd) ⟨ents,ep,hm,?_⟩))
 show wpAny _ _ _ _ _ { s with toks:=s.toks+1 };refine wpAny_bind (wpAny_holding (66:));refine wpAny_bind (wpAny_letGo ?_);show wpAny _ _ (if((ents.size:Nat):Int)<0 then _ else _) _ _ _;rw [if_neg (6:)];show wpAny _ _ (if((ents.size:Nat):Int)>=2^63 then _ else _) _ _ _;rw [if_neg (6:)];exact wpAny_bind (wpAny_mkInt (wpAny_pure ⟨_,rfl,h⟩))
section
variable{X:Cx}
theorem call_lenDT:QR X (.builtin "len") (λxs H Q=>∃(d:Addr)(kvs:List (88:)),xs=[.ref d]/\H d=some (.dT kvs)/\Q (.int (kvs.length:Int)) H):=by
 intro pins s σ H xs us Q I U h;obtain⟨d,kvs,rfl,Y,q⟩:=h;obtain⟨u,rfl,Z⟩:=US U;cases Z;obtain⟨z,lo,ys,J,hD⟩:=Nd I.hok Y;have L:=Paired.length J;obtain⟨o,ents,ep,g1,g2,g3,g4,g5,g6⟩:=hD;have G:ents.size=kvs.length:=by rw [J2 g4,List.length_map,L]
 have hl:=Yv;exact JF lo ⟨o,g1,g2,g3⟩ (by rw [G];lia) ⟨.int (kvs.length:Int),H,(I.tok _).tok _,⟨s.toks+1,by rw [G]⟩,q⟩
end
end LD
end L2
namespace K65
open PySem L2 TM TT K9 K11
def dW(ks:List KdT):List (Str×List PNx):=ks.map λk=>(k.2.1,k.2.2.2)
theorem Wd(kind:Str):∀ks:List KdT,rowsK ks kind=(((dW ks).find? λk=>decide (k.1=kind)).map λk=>k.2).getD []
 | []=>rfl
 | k::r=>by
  have G:=Wd kind r;unfold rowsK at G ⊢;unfold dW at G ⊢;rw [List.map_cons,List.find?_cons,List.find?_cons]
  by_cases e:k.2.1=kind
  .rw [decide_eq_true e];rfl
  .rw [decide_eq_false e];exact G
theorem UZ{ks ks':List KdT}(h:dW ks'=dW ks)(kind:Str):rowsK ks' kind=rowsK ks kind:=by rw [Wd,Wd,h]
theorem N8{ks ks':List KdT}(h:dW ks'=dW ks)(kind name:Str):Qv ks' kind name=Qv ks kind name:=by unfold Qv;rw [UZ h]
theorem WoodOk.dW{ks ks':List KdT}(h:dW ks'=dW ks)(o:WoodOk ks):WoodOk ks':=by
 have h1:(ks'.map λk=>k.2.1)=ks.map λk=>k.2.1:=by
  have:=congrArg (List.map Prod.fst) h;unfold K65.dW at this;rw [List.map_map,List.map_map]at this;exact this
 refine⟨by rw [h1];exact o.nd,?_,λk L=>?_⟩
 .have:=congrArg List.length h1;rw [List.length_map,List.length_map]at this;rw [this];exact o.len
 .have G:(k.2.1,k.2.2.2)∈K65.dW ks':=List.mem_map_of_mem L;rw [h]at G;obtain⟨U,J,e⟩:=List.mem_map.mp G;injection e with e1 e2;rw [<-e2];exact o.rows U J
structure NewWd(K:Fg)(H H':Hp)(lw:Addr)(ks:List KdT):Prop where
 n0:H lw=none
 at0:H' lw=some (.lst (ks.map λk=>V.ref k.1))
 kd:∀k∈ks,SqT K H' k.1 [.str k.2.1,.ref k.2.2.1]/\H' k.2.2.1=some (.lst (k.2.2.2.map λt=>V.ref t.1))/\H k.2.2.1=none/\∀t∈k.2.2.2,RowAt K H' t
theorem NewWd.wood{K:Fg}{H H':Hp}{lw:Addr}{ks:List KdT}(h:NewWd K H H' lw ks):WoodAt K H' lw ks:=⟨SqL.of h.at0,λk G=>⟨(h.kd k G).1,SqL.of (h.kd k G).2.1,(h.kd k G).2.2.2⟩⟩
abbrev XM(K:Fg):List V->Hp->VK->Prop:=λxs H Q=>∃p ys,xs=[.ref p]/\(SqL K H p ys\/SqT K H p ys)/\∀l,H l=none->Q (.ref l) (upd H l (.lst ys))
def Vp(K:Fg):Sp:=λvs H Q _=>∃(w:Addr)(ks:List KdT),vs=[.ref w]/\WoodAt K H w ks/\ks.length<=100/\∀(lw:Addr)(H':Hp)(ks':List KdT),Same H H'->NewWd K H H' lw ks'->dW ks'=dW ks->Q (.ref lw) H'
theorem X0{K:Fg}{H:Hp}{v:V}{t:TP}(h:TpV K H v t):(∃a p i j b,v=.ref a/\t=.node (.call i j b) 0 []/\SqT K H a [.str Yn,.ref p,.int b]/\H p=some (.tup [.int i,.int j])) \/
 ∃a b vs n k ad,v=.ref a/\t=.node (.put n k ad) 0 t.bs/\SqT K H a [.str PUT,.str n,.bl k,.int ad,.ref b]/\SqT K H b vs/\TpAll K H vs t.bs/\vs.length<=1000:=by
 cases h with
 | call h1 h2=>exact .inl ⟨_,_,_,_,_,rfl,rfl,h1,h2⟩
 | put h1 h2 G J=>exact .inr ⟨_,_,_,_,_,_,rfl,rfl,h1,h2,G,J⟩
theorem TpAll.get{K:Fg}{H:Hp}:∀{vs:List V}{ts:List TP}{i:Nat}{t:TP},TpAll K H vs ts->ts[i]?=some t->∃v,vs[i]?=some v/\TpV K H v t
 | _,_,_,_,.nil,e=>by simp at e
 | _,_,0,_,.cons h _,e=>by simp at e;subst e;exact⟨_,rfl,h⟩
 | _,_,i+1,t,.cons _ r,e=>by
  obtain⟨v,h1,h2⟩:=TpAll.get (i:=i) (t:=t) r (by simpa using e);exact⟨v,by simpa using h1,h2⟩
abbrev Pr:=Int×Int
mutual
noncomputable def clP:TP->List (Pr×Int)
 | .node (.call i j b) _ _=>[((i,j),b)]
 | .node (.put _ _ _) _ bs=>Zb bs
noncomputable def Zb:List TP->List (Pr×Int)
 | []=>[]
 | t::r=>clP t++Zb r
end
theorem Xd(ts:List TP)(c:TP):Zb (ts++[c])=Zb ts++clP c:=by
 induction ts with
 | nil=>simp [Zb]
 | cons t r G=>rw [List.cons_append,Zb,Zb,G,List.append_assoc]
mutual
theorem Xh:∀t:TP,(clP t).length<=sz t
 | .node (.call i j b) _ bs=>by rw [clP,sz];simp
 | .node (.put n k a) _ bs=>by rw [clP,sz];have:=U7 bs;lia
theorem U7:∀ts:List TP,(Zb ts).length<=szs ts
 | []=>by rw [Zb,szs];exact Nat.le_refl _
 | t::r=>by rw [Zb,szs,List.length_append];have:=Xh t;have:=U7 r;lia
end
theorem VP{ts:List TP}{t:TP}{c:Pr×Int}(h:t∈ts)(hc:c∈clP t):c∈Zb ts:=by
 induction ts with
 | nil=>cases h
 | cons u r G=>
  rw [Zb];rcases List.mem_cons.mp h with rfl | h
  .exact List.mem_append_left _ hc
  .exact List.mem_append_right _ (G h)
mutual
noncomputable def mpP(g:Pr->Int):TP->Tm
 | .node (.call i j b) _ _=>.node (.call (g (i,j)) b) 0 []
 | .node (.put n k a) _ bs=>.node (.put n k a) 0 (Jb g bs)
noncomputable def Jb(g:Pr->Int):List TP->List Tm
 | []=>[]
 | t::r=>mpP g t::Jb g r
end
theorem ZX(g:Pr->Int):∀ts:List TP,Jb g ts=ts.map (mpP g)
 | []=>by rw [Jb];rfl
 | t::r=>by rw [Jb,ZX g r];rfl
abbrev TsT:=Addr×Addr×Pr×Int
abbrev RfP(ts:List TsT):List V:=ts.map λt=>V.ref t.1
def TsP(K:Fg)(H:Hp)(ts:List TsT):Prop:=∀t∈ts,SqT K H t.1 [.ref t.2.1,.int t.2.2.2]/\H t.2.1=some (.tup [.int t.2.2.1.1,.int t.2.2.1.2])
theorem TsP.mono{K:Fg}{H H':Hp}{ts:List TsT}(h:TsP K H ts)(k:KeepT K H H'):TsP K H' ts:=λt G=>⟨k.1 _ _ (h t G).1,k.2 _ _ (h t G).2⟩
theorem TsP.app{K:Fg}{H:Hp}{ts us:List TsT}(h:TsP K H ts)(k:TsP K H us):TsP K H (ts++us):=λt G=>by
 rcases List.mem_append.mp G with z | z
 .exact h t z
 .exact k t z
def VM(K:Fg)(n:Nat):Sp:=λvs H Q _=>∃(v:V)(t:TP),vs=[v]/\TpV K H v t/\lv t<=n/\sz t<=1000/\
 ∀(l:Addr)(H':Hp)(ts:List TsT),Same H H'->H l=none->H' l=some (.lst (RfP ts))->TsP K H' ts->ts.map (·.2.2)=clP t->Q (.ref l) H'
def Q7(ps:List Pr):List (88:):=ps.zipIdx.map λq=>([Sum.inl q.1.1,Sum.inl q.1.2],V.int (q.2:Int))
theorem GR(ps:List Pr)(p:Pr):Q7 (ps++[p])=Q7 ps++[([Sum.inl p.1,Sum.inl p.2],V.int (ps.length:Int))]:=by
 unfold Q7;rw [List.zipIdx_append,List.map_append];simp
theorem Zq(ps:List Pr):(Q7 ps).length=ps.length:=by unfold Q7;simp
theorem Lp(ps:List Pr):(Q7 ps).map (·.1)=ps.map λc=>[Sum.inl c.1,Sum.inl c.2]:=by
 unfold Q7;rw [List.map_map];have:((λx:List Key×V=>x.1)∘λq:Pr×Nat=>(([Sum.inl q.1.1,Sum.inl q.1.2]:List Key),V.int (q.2:Int)))=(λc:Pr=>([Sum.inl c.1,Sum.inl c.2]:List Key))∘Prod.fst:=rfl;rw [this,<-List.map_map,List.zipIdx_map_fst]
theorem RJ{d e:Pr}(h:([Sum.inl d.1,Sum.inl d.2]:List Key)=[Sum.inl e.1,Sum.inl e.2]):d=e:=by
 injection h with h1 h2;injection h2 with h2;injection h1 with h1;injection h2 with h2;exact Prod.ext h1 h2
def ixP(ps:List Pr)(p:Pr):Int:=(ps.idxOf p:Int)
theorem XW(p:Pr):∀(ps:List Pr)(k:Nat),Zx ((ps.zipIdx k).map λq=>(([Sum.inl q.1.1,Sum.inl q.1.2]:List Key),V.int (q.2:Int))) [Sum.inl p.1,Sum.inl p.2]=if p∈ps then some (.int ((ps.idxOf p+k:Nat):Int))else none
 | [],k=>by simp [Zx]
 | q::r,k=>by
  rw [List.zipIdx_cons,List.map_cons]
  by_cases e:q=p
  .rw [ZL (p:=(([Sum.inl q.1,Sum.inl q.2]:List Key),V.int (k:Int))) (by rw [e]),if_pos (by simp [e])];simp [List.idxOf_cons,e]
  .rw [ZK (p:=(([Sum.inl q.1,Sum.inl q.2]:List Key),V.int (k:Int))) (λz=>e (RJ z)),XW p r (k+1)];have e2:(q==p)=false:=by simpa using e
   by_cases G:p∈r
   .rw [if_pos G,if_pos (34:),List.idxOf_cons,e2];simp only [cond_false]
    congr 3
    lia
   .rw [if_neg G,if_neg (λz=>by rcases List.mem_cons.mp z with z | z;exact e z.symm;exact G z)]
theorem X9{H:Hp}{d p:Addr}{ps:List Pr}{c:Pr}(hd:H d=some (.dT (Q7 ps)))(hp:H p=some (.tup [.int c.1,.int c.2])):DGet H d (.ref p) (if c∈ps then some (.int (ixP ps c))else none):=by
 have:=DGet.t (k:=[Sum.inl c.1,Sum.inl c.2]) hd hp;unfold Q7 at this;rw [XW c ps 0]at this;exact this
def NN(K:Fg):Sp:=λvs H Q _=>∃(a l:Addr)(ws:List V)(z y:V)(n:Str)(k:Bool)(ad:Int)(us:List Tm),vs=[.ref a,.ref l]/\SqT K H a [z,.str n,.bl k,.int ad,y]/\SqL K H l ws/\TmAll K H ws us/\ws.length<=1000/\
 ∀(v':V)(H':Hp),Same H H'->TmV K H' v' (.node (.put n k ad) 0 us)->Q v' H'
def JE(K:Fg)(n:Nat):Sp:=λvs H Q _=>∃(v:V)(d:Addr)(ps:List Pr)(t:TP),vs=[v,.ref d]/\TpV K H v t/\lv t<=n/\H d=some (.dT (Q7 ps))/\(∀c∈clP t,c.1∈ps)/\∀(v':V)(H':Hp),Same H H'->TmV K H' v' (mpP (ixP ps) t)->Q v' H'
section
variable{P:Program}{w:World}{K:Fg}{mg:Str->Option Value}{base:Heap}{f:Addr}{fd:FuncData}
theorem PZ:FnScope ["wood"] ["wood"] (defScope PD):=(0:)
theorem NZ(F:Fun K "own_wood" "own_wood" PD f fd)(G:Gm mg):FnOk P w K mg base CX0 1 f fd ["wood"] (Vp K):=by
 refine F.ok PZ (11:) (λad A outer s H vs Q E hr h=>?_)
 .obtain⟨wd,ks,rfl,_⟩:=h
  rfl
 obtain⟨wd,ks,rfl,hW,ab,q⟩:=h;refine⟨_,(Qi (Ql (QH (29:) rfl (QG (pv 0)) (Gp (29:) rfl) (92:) (55:)))),?_⟩
 try dsimp only [Qn,Cx.nox]
 refine⟨_,rfl,wd,rfl,⟨_,hW.1⟩,λacc aa=>?_⟩;refine UG (K:=K) (xs:=ks.map λt=>V.ref t.1) (cs:=[]) (tt:=λ_ H Q=>Q true H) (λj ys H'=>∃J:List KdT,ys=J.map (λk=>V.ref k.1)/\dW J=dW (ks.take j)/\H' acc=some (.lst ys)/\Same H H'/\∀k∈J,SqT K H' k.1 [.str k.2.1,.ref k.2.2.1]/\H' k.2.2.1=some (.lst (k.2.2.2.map λt=>V.ref t.1))/\H k.2.2.1=none/\k.2.2.1≠acc/\∀t∈k.2.2.2,RowAt K H' t)
  ⟨[],rfl,rfl,Qb,Qc aa _,λk hk=>(nomatch hk)⟩ ?_ ?_ ?_
 .rintro j ys H' _ ⟨_,_,_,_,g,_⟩;exact g.seq hW.1
 .rintro j x ys H' hj hx ⟨J,rfl,hd,hy,g,hA⟩;rw [List.length_map]at hj;obtain rfl:x=.ref ks[j].1:=by
   rw [List.getElem?_map,List.getElem?_eq_getElem hj]at hx;exact(Option.some.inj hx).symm
  obtain⟨k1,k2⟩:=hW.2 ks[j] (List.getElem_mem hj);refine⟨_,_,_,rfl,g.seqT k1,Zk ⟨_,rfl,_,rfl,ks[j].2.2.1,_,rfl,.inl (g.seq k2.1),λU Z=>⟨(30:),λp hp=>?_⟩⟩⟩;have s1:=Qc Z (42:);have b1:upd H' U (42:) U=some (42:):=Qb;generalize upd H' U (42:)=X1 at s1 b1 hp ⊢;have s2:=Qc hp (.tup [.str ks[j].2.1,.ref U]);have b2:upd X1 p (.tup [.str ks[j].2.1,.ref U]) p=some (.tup [.str ks[j].2.1,.ref U]):=Qb;generalize upd X1 p (.tup [.str ks[j].2.1,.ref U])=X2 at s2 b2 ⊢;have L:=s1.trans s2;have ac:J.length=j:=by
   have:=congrArg List.length hd;unfold dW at this;rw [List.length_map,List.length_map,List.length_take]at this;lia
  have nl:U≠acc:=λz=>by rw [z,hy]at Z;cases Z
  have nH:H U=none:=by
   cases e:H U with
   | none=>rfl
   | some u=>rw [g _ _ e]at Z;cases Z
  have Y:=L _ _ hy;rw [List.length_map];refine QB hj Y (36:) ⟨J++[(p,ks[j].2.1,U,ks[j].2.2.2)],by simp,?_,Qb,λb u e=>?_,λk hk=>?_⟩
  .unfold dW at hd ⊢;rw [List.map_append,hd,List.take_add_one,List.getElem?_eq_getElem hj,Option.toList_some,List.map_append];rfl
  .rw [Qg (Qd e aa)];exact L _ _ (g _ _ e)
  .rcases List.mem_append.mp hk with hk | hk
   .obtain⟨a1,a2,a3,a4,a5⟩:=hA k hk;exact⟨(L.seqT a1).put Y,by rw [Qg a4];exact L _ _ a2,a3,a4,λt ht=>⟨(L.seqT (a5 t ht).1).put Y,(L.seqT (a5 t ht).2).put Y⟩⟩
   .obtain rfl:=List.mem_singleton.mp hk;exact⟨(SqT.of b2).put Y,by rw [Qg nl];exact s2 _ _ b1,nH,nl,λt ht=>⟨((g.trans L).seqT (k2.2 t ht).1).put Y,((g.trans L).seqT (k2.2 t ht).2).put Y⟩⟩
 .rintro ys H' ⟨J,rfl,hd,hy,g,hA⟩;rw [List.length_map,List.take_length]at hd;exact q acc H' J g ⟨aa,hy,λk hk=>⟨(hA k hk).1,(hA k hk).2.1,(hA k hk).2.2.1,(hA k hk).2.2.2.2⟩⟩ hd
theorem Rj:FnScope ["term","told","part"] ["term"] (defScope sCO):=(0:)
theorem TK{n:Nat}(F:Fun K "calls_of" "calls_of" sCO f fd)(G:Gm mg)(RC:Fn P w K mg base 1 "is_call" ["term"] (ZF K))(R:Fn P w K mg base (n+1) "calls_of" ["term"] (VM K n)):FnOk P w K mg base CX0 (n+2) f fd ["term"] (VM K (n+1)):=by
 refine F.ok Rj (11:) (λap A outer s H vs Q E hr h=>?_)
 .obtain⟨v,t,rfl,_⟩:=h
  rfl
 obtain⟨v,t,rfl,ht,ag,ah,q⟩:=h;refine⟨_,(Qh (QM (QS (QF RC hr (Qa (pv 0) Qe) (Nat.le_add_left 1 n))) (Qi (Ql (Yt (Qa ((Qx (Qa (4:) (Qa (4:) Qe)))) Qe)))) Qr)
  (Qh (Qz (i:=1) Rj.nd rfl (32:) (Yt Qe))
  (Qh (QX PassesOwn.never rfl (Ub (4:)) (Qw (i:=2) Rj.nd rfl (32:))
   (Qi (QL (U1 PySem.F.plainAttrs_list PySem.F.slot_list_extend PySem.F.type_list_extend GC (pv 1) (Qa (QF R hr (Qa (pv 2) Qe) (7:)) Qe)))))
  (Qi (Ql (pv 1)))))),?_⟩
 try dsimp only [Qn,Cx.nox]
 rcases X0 ht with⟨a,pa,i,j,b,rfl,rfl,h1,ai⟩ | ⟨a,b,bs,nm,k,ad,rfl,et,h1,h2,h3,h4⟩
 .refine⟨_,rfl,a,Yn,_,rfl,h1,_,rfl,UC rfl ⟨_,rfl,a,_,1,_,rfl,rfl,h1,rfl,_,rfl,a,_,2,_,rfl,rfl,h1,rfl,(30:),λp hp=>⟨(76:),λl Y=>?_⟩⟩⟩;have g1:=Qc hp (.tup [.ref pa,.int b]);have g2:=Qc Y (.lst [.ref p]);refine q l _ [(p,pa,(i,j),b)] (g1.trans g2) (g1.free Y) Qb (λx Z=>?_) rfl;have:x=(p,pa,(i,j),b):=by simpa using Z
  rw [this];exact⟨g2.seqT (SqT.of Qb),(g1.trans g2) _ _ ai⟩
 have af:clP t=Zb t.bs:=by
  have:=congrArg clP et;rw [this];simp [clP]
 refine(85:);have an:=h3.length;rw [Q8]at ag;rw [WD]at ah;rw [af]at q;refine⟨(99:),λl Y=>?_⟩;have g0:=Qc Y (.lst []);refine⟨_,rfl,a,_,4,_,rfl,rfl,g0.seqT h1,rfl,b,rfl,⟨_,g0.seqT h2⟩,?_⟩;refine XH (K:=K) (xs:=bs) (λi σ H'=>∃(J:List TsT)(c1:Option V),σ=[some (.ref a),some (.ref l),c1]/\Same H H'/\H' l=some (.lst (RfP J))/\TsP K H' J/\J.map (·.2.2)=Zb (t.bs.take i))
  ⟨[],none,rfl,g0,Qb,λx Z=>(nomatch Z),by simp [Zb]⟩ ?_ ?_ ?_
 .rintro i σ H' _ ⟨J,c1,_,g,_⟩;exact g.seqT h2
 .rintro i x σ H' Z ⟨J,c1,rfl,g,U,aa,L⟩;have hi:i<bs.length:=(List.getElem?_eq_some_iff.mp Z).1;obtain⟨c,hc⟩: ∃c,t.bs[i]?=some c:=(41:);obtain⟨cv,aj,ak⟩:=h3.get hc;obtain rfl:cv=x:=Option.some.inj (aj.symm.trans Z);have hm:=List.mem_of_getElem? hc;have a1:=WJ hm;have a2:=TL hm;refine⟨_,rfl,.inl ⟨rfl,_,SqL.of U⟩,_,rfl,cv,c,rfl,ak.mono (KeepT.same g),by lia,by lia,λlb Hb ae gb ao al am ab=>?_⟩;have ac:=gb _ _ U;have tl:J.length<=szs t.bs:=by
   have e:=congrArg List.length L;rw [List.length_map]at e;have h5:=U7 (t.bs.take i);have aq:=Wg t.bs i;lia
  have ar:ae.length<=sz c:=by
   have e:=congrArg List.length ab;rw [List.length_map]at e;have h5:=Xh c;lia
  refine⟨l,lb,_,_,rfl,rfl,ac,al,?_,?_⟩
  .rw [List.length_map,List.length_map];exact Zg (6:)
  refine⟨J++ae,_,rfl,λx u e=>?_,by rw [Qb];simp,?_,?_⟩
  .rw [Qg (Qd e Y)];exact gb _ _ (g _ _ e)
  .exact(aa.mono ((KeepT.same gb).trans (KeepT.put ac))).app (am.mono (KeepT.put ac))
  .rw [List.map_append,L,ab,List.take_add_one,hc];show _=(Zb (t.bs.take i++[c]));rw [Xd]
 .rintro σ H' ⟨J,c1,rfl,g,U,aa,L⟩;rw [List.take_of_length_le (6:)]at L;exact⟨_,rfl,q l H' J g Y U aa L⟩
theorem NI{k:Nat}:FnOk P w K mg base CX0 k f fd ["term"] (VM K 0):=by
 have G:∀vs H Q E,¬VM K 0 vs H Q E:=λvs H Q E h=>by
  obtain⟨v,t,_,_,J,_⟩:=h;rw [Q8]at J;lia
 exact(58:)
theorem Nt(F:Fun K "calls_of" "calls_of" sCO f fd)(G:Gm mg)(RC:Fn P w K mg base 1 "is_call" ["term"] (ZF K))(hb:Binds K fd ["term"] [])(hm:mg "calls_of"=some (82:)):∀n:Nat,FnOk P w K mg base CX0 (n+1) f fd ["term"] (VM K n)
 | 0=>NI
 | n+1=>TK F G RC ⟨f,fd,Nt F G RC hb hm n,hb,F.kp,hm⟩
theorem T4:FnScope ["term","parts"] ["term","parts"] (defScope Vf):=(0:)
theorem Tq(F:Fun K "with_parts" "with_parts" Vf f fd)(G:Gm mg):FnOk P w K mg base CX0 1 f fd ["term","parts"] (NN K):=by
 refine F.ok T4 (11:) (λaa A outer s H vs Q E hr h=>?_)
 .obtain⟨a,l,J,z,y,n,k,U,us,rfl,_⟩:=h
  rfl
 obtain⟨a,l,J,z,y,n,k,U,us,rfl,h1,hl,hw,Y,q⟩:=h;refine⟨_,(Qi (Ql (Qx (Qa (QJ) (Qa (4:) (Qa (4:) (Qa (4:) (Qa (QI Zz rfl G.tup PyProof.Rows.boot_tuple (Qa (pv 1) Qe)) Qe)))))))),?_⟩
 try dsimp only [Qn,Cx.nox]
 refine⟨_,rfl,a,_,1,_,rfl,rfl,h1,rfl,_,rfl,a,_,2,_,rfl,rfl,h1,rfl,_,rfl,a,_,3,_,rfl,rfl,h1,rfl,_,rfl,l,J,rfl,.inl ⟨hl,λt ht=>⟨(by show 5<=sizeLine;decide),λp hp=>?_⟩⟩⟩;have Z:=Qc ht (.tup J);have L:=Qc hp (.tup [.str PUT,.str n,.bl k,.int U,.ref t]);exact q (.ref p) _ (Z.trans L) (.put (SqT.of Qb) (L.seqT (SqT.of Qb)) (hw.mono λ_ _=>(Z.trans L).seqT) Y)
theorem Oc:FnScope ["term","numbers"] ["term","numbers"] (defScope Jv):=(0:)
theorem Ta{n:Nat}(F:Fun K "with_modes" "with_modes" Jv f fd)(G:Gm mg)(RC:Fn P w K mg base 1 "is_call" ["term"] (ZF K))(RW:Fn P w K mg base 1 "with_parts" ["term","parts"] (NN K))(R:Fn P w K mg base (n+1) "with_modes" ["term","numbers"] (JE K n)):FnOk P w K mg base CX0 (n+2) f fd ["term","numbers"] (JE K (n+1)):=by
 refine F.ok Oc (11:) (λam A outer s H vs Q E hr h=>?_)
 .obtain⟨v,d,ps,t,rfl,_⟩:=h
  rfl
 obtain⟨v,lt,ps,t,rfl,ht,ae,aa,hT,q⟩:=h;refine⟨_,(Qh (QM (QS (QF RC hr (Qa (pv 0) Qe) (Nat.le_add_left 1 n))) (Qi (Ql (Qx (Qa (QJ) (Qa (YM (Z8 hr) (pv 1) (4:) (26:)) (Qa (4:) Qe)))))) Qr)
  (Qi (Ql (QF RW hr (Qa (pv 0) (Qa (QH (CompG.many (xs:=["part"]) (caps:=["numbers"]) (cap:=[1]) (cs:=[_]) rfl rfl (1:) (1:) (1:) (1:) (1:) (1:) rfl rfl rfl) rfl (Ub (4:)) (Z7 (CompG.many (xs:=["part"]) (caps:=["numbers"]) (cap:=[1]) (cs:=[_]) rfl rfl (1:) (1:) (1:) (1:) (1:) (1:) rfl rfl rfl)) (92:) (λ_ _ _ _=>QF R hr (Qa (pv 0) (Qa (pv 1) Qe)) (7:))) Qe)) (Nat.le_add_left 1 n))))),?_⟩
 try dsimp only [Qn,Cx.nox]
 rcases X0 ht with⟨a,pa,i,j,b,rfl,rfl,h1,af⟩ | ⟨a,b,bs,nm,k,ad,rfl,et,h1,h2,h3,h4⟩
 .have ag:(i,j)∈ps:=hT ((i,j),b) (by simp [clP]);have hg:=X9 (c:=(i,j)) aa af;rw [if_pos ag]at hg;refine⟨_,rfl,a,Yn,_,rfl,h1,_,rfl,UC rfl ⟨_,rfl,_,rfl,a,_,1,_,rfl,rfl,h1,rfl,lt,_,rfl,hg,_,rfl,a,_,2,_,rfl,rfl,h1,rfl,(98:),λp hp=>?_⟩⟩;have g1:=Qc hp (.tup [.str Yn,.int (ixP ps (i,j)),.int b]);exact q (.ref p) _ g1 (.call (SqT.of Qb))
 have ac:clP t=Zb t.bs:=by
  have:=congrArg clP et;rw [this];simp [clP]
 rw [ac]at hT;refine(85:);have al:=h3.length;rw [Q8]at ae;refine⟨_,rfl,_,rfl,a,_,4,_,rfl,rfl,h1,rfl,b,rfl,⟨_,h2⟩,λacc U=>?_⟩;refine XX (K:=K) (xs:=bs) (cs:=[some (.ref lt)]) (tt:=λ_ H Q=>Q true H) (te:=Wi (JE K n) [] E0 (Yp (UE 0) (Yp (UE 1) GD))) (λi ys H'=>H' acc=some (.lst ys)/\Same H H'/\ys.length=i/\TmAll K H' ys ((t.bs.take i).map (mpP (ixP ps))))
  ⟨Qb,Qc U _,rfl,.nil⟩ ?_ ?_ ?_
 .rintro i ys H' _ ⟨_,g,_⟩;exact g.seqT h2
 .rintro i x ys H' hi hx ⟨J,g,ab,L⟩;obtain⟨c,hc⟩: ∃c,t.bs[i]?=some c:=(41:);obtain⟨cv,ah,ai⟩:=h3.get hc;obtain rfl:cv=x:=Option.some.inj (ah.symm.trans hx);have hm:=List.mem_of_getElem? hc;have a1:=WJ hm;refine Zk ⟨_,rfl,_,rfl,cv,lt,ps,c,rfl,ai.mono (KeepT.same g),by lia,g _ _ aa,λc' aj=>hT c' (VP hm aj),λv' H4 Y Z=>?_⟩;refine QB (ys:=ys) hi (Y _ _ J) (6:) ⟨Qb,λx u e=>?_,by simp [ab],?_⟩
  .rw [Qg (Qd e U)];exact Y _ _ (g _ _ e)
  .rw [List.take_add_one,hc];show TmAll K _ (ys++[v']) ((t.bs.take i++[c]).map (mpP (ixP ps)));rw [List.map_append];refine TmAll.append (L.mono λ_ _ h=>(Y.seqT h).put (Y _ _ J)) (.cons (Z.mono λ_ _ h=>h.put (Y _ _ J)) .nil)
 rintro ys H1 ⟨J,g,ab,L⟩;have ak:t.bs.take bs.length=t.bs:=List.take_of_length_le (6:);rw [ak]at L;refine⟨a,acc,ys,_,_,nm,k,ad,t.bs.map (mpP (ixP ps)),rfl,g.seqT h1,SqL.of J,L,by lia,λv' H2 g2 Z=>q v' H2 (g.trans g2) ?_⟩;rw [et];rw [mpP,ZX];exact Z
theorem OU{k:Nat}:FnOk P w K mg base CX0 k f fd ["term","numbers"] (JE K 0):=by
 have G:∀vs H Q E,¬JE K 0 vs H Q E:=λvs H Q E h=>by
  obtain⟨v,d,ps,t,_,_,J,_⟩:=h;rw [Q8]at J;lia
 exact(58:)
theorem M4(F:Fun K "with_modes" "with_modes" Jv f fd)(G:Gm mg)(RC:Fn P w K mg base 1 "is_call" ["term"] (ZF K))(RW:Fn P w K mg base 1 "with_parts" ["term","parts"] (NN K))(hb:Binds K fd ["term","numbers"] [])(hm:mg "with_modes"=some (82:)):∀n:Nat,FnOk P w K mg base CX0 (n+1) f fd ["term","numbers"] (JE K n)
 | 0=>OU
 | n+1=>Ta F G RC RW ⟨f,fd,M4 F G RC RW hb hm n,hb,F.kp,hm⟩
end
end K65
namespace K65
open PySem L2 TM TT K9 K11
def Ze(ps:List Pr)(p:Pr):List Pr:=if p∈ps then ps else ps++[p]
def addPs(ps l:List Pr):List Pr:=l.foldl Ze ps
theorem Zl(ps l r:List Pr):addPs ps (l++r)=addPs (addPs ps l) r:=List.foldl_append ..
theorem Jn{ps:List Pr}{d e:Pr}:e∈Ze ps d↔e∈ps\/e=d:=by
 unfold Ze
 by_cases h:d∈ps
 .rw [if_pos h];exact⟨.inl,λz=>z.elim id λz=>by rw [z];exact h⟩
 .rw [if_neg h];simp
theorem QN{e:Pr}:∀{l ps:List Pr},e∈addPs ps l↔e∈ps\/e∈l
 | [],ps=>by simp [addPs]
 | d::l,ps=>by
  show e∈addPs (Ze ps d) l↔_;rw [QN,Jn,List.mem_cons,or_assoc]
theorem MQ{ps:List Pr}{d:Pr}:ps.length<=(Ze ps d).length:=by
 unfold Ze
 by_cases e:d∈ps
 .rw [if_pos e];exact Nat.le_refl _
 .rw [if_neg e,List.length_append];lia
theorem Ym:∀{l ps:List Pr},ps.length<=(addPs ps l).length
 | [],ps=>Nat.le_refl _
 | d::l,ps=>Nat.le_trans MQ (Ym (l:=l) (ps:=Ze ps d))
theorem Zm:∀{l ps:List Pr},∃r,addPs ps l=ps++r
 | [],ps=>⟨[],by simp [addPs]⟩
 | d::l,ps=>by
  obtain⟨r,e⟩:=Zm (l:=l) (ps:=Ze ps d)
  by_cases h:d∈ps
  .have e1:Ze ps d=ps:=if_pos h;rw [e1]at e;exact⟨r,by show addPs (Ze ps d) l=_;rw [e1];exact e⟩
  .have e1:Ze ps d=ps++[d]:=if_neg h;rw [e1]at e;exact⟨d::r,by show addPs (Ze ps d) l=_;rw [e1,e,List.append_assoc];rfl⟩
theorem KeepT.dt{K:Fg}{H H':Hp}{d:Addr}{kvs:List (88:)}(h:H d=some (.dT kvs))(g:SameX d H H'):KeepT K H H':=⟨λa xs q=>by
 rcases q with(q | ⟨o,q⟩) | q
 .exact .inl (.inl (g _ _ (ne_of q h (10:)) q))
 .exact .inl (.inr ⟨o,g _ _ (ne_of q h (10:)) q⟩)
 .exact .inr q,λa xs q=>g _ _ (ne_of q h (10:)) q⟩
theorem OY{ps:List Pr}{d:Pr}:(Ze ps d).length<=ps.length+1:=by
 unfold Ze
 by_cases e:d∈ps
 .rw [if_pos e];exact Nat.le_succ _
 .rw [if_neg e,List.length_append];exact Nat.le_refl _
theorem Ww:∀{l ps:List Pr},(addPs ps l).length<=ps.length+l.length
 | [],ps=>Nat.le_refl _
 | d::l,ps=>by
  have h1:=Ww (l:=l) (ps:=Ze ps d);have h2:=OY (ps:=ps) (d:=d);show(addPs (Ze ps d) l).length<=_;rw [List.length_cons];lia
def R1(K:Fg)(N:Addr)(n:Nat):Sp:=λvs H Q E=>∃(v:V)(d:Addr)(ps:List Pr)(t:TP),vs=[.ref d,v,.int 40]/\TpV K H v t/\lv t<=n/\sz t<=1000/\H d=some (.dT (Q7 ps))/\ps.length<=1000/\
 ((addPs ps ((clP t).map (·.1))).length<=40->∀(H':Hp),SameX d H H'->H' d=some (.dT (Q7 (addPs ps ((clP t).map (·.1)))))->Q .non H')/\(40<(addPs ps ((clP t).map (·.1))).length->∀H':Hp,SameX d H H'->E (.ref N) none H')
def Oa(K:Fg)(n:Nat):Sp:=λvs H Q _=>∃(mp lr d:Addr)(kind:Str)(ws:List V)(os:List TP)(ps:List Pr),vs=[.ref mp,.ref d]/\SqT K H mp [.str kind,.ref lr]/\SqL K H lr ws/\TpAll K H ws os/\os.length<=100/\H d=some (.dT (Q7 ps))/\(∀o∈os,lv o<=n/\∀c∈clP o,c.1∈ps)/\
 ∀(p lq:Addr)(us:List V)(H':Hp),Same H H'->H' p=some (.tup [.str kind,.ref lq])->H lq=none->H' lq=some (.lst us)->TmAll K H' us (os.map (mpP (ixP ps)))->Q (.ref p) H'
section
variable{P:Program}{w:World}{K:Fg}{mg:Str->Option Value}{base:Heap}{f:Addr}{fd:FuncData}{N:Addr}
theorem Ra:FnScope ["numbers","term","most","mode","branch"] ["numbers","term","most"] (defScope Gc):=(0:)
theorem Tf{n:Nat}(F:Fun K "number_calls" "number_calls" Gc f fd)(G:Gm mg)(R:Rs K mg "TooGreat" N)(RC:Fn P w K mg base (n+1) "calls_of" ["term"] (VM K n)):FnOk P w K mg base (CX1 P w) (n+2) f fd ["numbers","term","most"] (R1 K N n):=by
 refine Fun.okX F Ra (11:) (λap A outer s H vs Q E hr h=>?_)
 .obtain⟨v,d,ps,t,rfl,_⟩:=h
  rfl
 obtain⟨v,d,ps,t,rfl,ht,ag,ah,hd,aq,q,qE⟩:=h;refine⟨_,(Qh (QX PassesOwn.leaving rfl (QG (QF RC hr (Qa (pv 1) Qe) (7:))) (ZA rfl (QA (Qw (i:=3) Ra.nd rfl (32:)) (QA (Qw (i:=4) Ra.nd rfl (32:)) Zh)))
  (Qi (QM (Xf (J1 (Z8 hr) (pv 3) (pv 0))) (Qi (Gu (Z8 hr) (pv 0) (pv 3) (Qq LD.call_lenDT rfl G.len PySem.boot_len (Qa (pv 0) Qe)) rfl)) Qr)))
  (Qi (QM (QC NC (Qq LD.call_lenDT rfl G.len PySem.boot_len (Qa (pv 0) Qe)) (pv 2) (QK _)) (Qi (YH R.hm R.hq PySem.F.excBase_ValueError (18:) (Qa (Wz QJ (XE (pv 2)) QJ) Qe))) Qr))),?_⟩
 try dsimp only [Qn,Cx.nox]
 refine⟨_,rfl,v,t,rfl,ht,ag,ah,λl H1 J g1 nl hl ai ad=>?_⟩;have ae:=g1 _ _ hd;have aj:l≠d:=λz=>by rw [z,hd]at nl;cases nl
 have ak:(clP t).map (·.1)=J.map (·.2.2.1):=by rw [<-ad,List.map_map];rfl
 have an:=Xh t;have ar:J.length=(clP t).length:=by rw [<-ad,List.length_map]
 rw [ak]at q qE;refine⟨l,rfl,⟨_,SqL.of hl⟩,?_⟩;refine ZJ (K:=K) (xs:=RfP J) (λi σ H'=>∃c3 c4:Option V,σ=[some (.ref d),some v,some (.int 40),c3,c4]/\SameX d H1 H'/\H' d=some (.dT (Q7 (addPs ps ((J.map (·.2.2.1)).take i)))))
  ⟨none,none,rfl,SameX.refl _ _,ae⟩ ?_ ?_ ?_
 .rintro i σ H' _ ⟨c3,c4,_,g,_⟩;exact SqL.of (g _ _ aj hl)
 .rintro i x σ H' hx ⟨c3,c4,rfl,g,L⟩;have hi:i<J.length:=by
   have:=(72:).1
   rwa [List.length_map]at this
  obtain rfl:x=.ref J[i].1:=by
   rw [List.getElem?_map,List.getElem?_eq_getElem hi]at hx;exact(Option.some.inj hx).symm
  obtain⟨t1,t2⟩:=(ai.mono (KeepT.dt ae g)) _ (List.getElem_mem hi);have al:(J.map (·.2.2.1))[i]?=some J[i].2.2.1:=by rw [List.getElem?_map,List.getElem?_eq_getElem hi];rfl
  have ab:addPs ps ((J.map (·.2.2.1)).take (i+1))=Ze (addPs ps ((J.map (·.2.2.1)).take i)) J[i].2.2.1:=by rw [List.take_add_one,al,Zl];rfl
  have Z:(addPs ps ((J.map (·.2.2.1)).take (i+1))).length<=2000:=by
   have e:=Ww (ps:=ps) (l:=(J.map (·.2.2.1)).take (i+1));rw [List.length_take,List.length_map]at e;lia
  rw [ab]at Z ⊢;generalize addPs ps ((J.map (·.2.2.1)).take i)=U at L Z ⊢;refine⟨J[i].1,_,rfl,t1,rfl,_,_,rfl,_,_,rfl,rfl,?_⟩;refine⟨_,rfl,_,rfl,d,_,rfl,X9 L t2,?_⟩
  by_cases Y:J[i].2.2.1∈U
  .rw [if_pos Y];refine⟨_,rfl,Zn ⟨_,_,rfl,g,?_⟩⟩;rw [show Ze U J[i].2.2.1=U from if_pos Y];exact L
  .rw [if_neg Y];have af:Ze U J[i].2.2.1=U++[J[i].2.2.1]:=if_neg Y;rw [af]at Z ⊢;rw [List.length_append,List.length_singleton]at Z;have ao:=X9 L t2;have am:Zx (Q7 U) [Sum.inl J[i].2.2.1.1,Sum.inl J[i].2.2.1.2]=none:=by
    unfold Q7;rw [XW,if_neg Y]
   have aa:=DPut.t (k:=[Sum.inl J[i].2.2.1.1,Sum.inl J[i].2.2.1.2]) (v:=.int ((Q7 U).length:Int)) L t2 (by rw [Zq,QT];lia);rw [Wl _ am,Zq,<-GR]at aa;have ac:DPut H' d (.ref J[i].2.1) (.int ((Q7 U).length:Int)) (upd H' d (.dT (Q7 (U++[J[i].2.2.1])))):=by rw [Zq];exact aa
   exact⟨_,rfl,Zk ⟨_,rfl,d,_,rfl,L,_,rfl,_,rfl,d,upd H' d (.dT (Q7 (U++[J[i].2.2.1]))),rfl,ac,_,_,rfl,λb u nb e=>by rw [Qg nb];exact g _ _ nb e,Qb⟩⟩
 .rintro σ H' ⟨c3,c4,rfl,g,L⟩;rw [List.take_of_length_le (by rw [List.length_map,List.length_map];exact Nat.le_refl _)]at L;refine⟨_,rfl,d,_,rfl,L,_,rfl,_,_,rfl,rfl,_,rfl,WE (λc=>?_) (λc=>?_)⟩
  .have c':(((Q7 (addPs ps (J.map (·.2.2.1)))).length:Nat):Int)>40:=of_decide_eq_true c;rw [Zq]at c';exact⟨_,rfl,by decide+kernel,_,rfl,40,rfl,by decide+kernel,_,rfl,by decide+kernel,_,rfl,by decide+kernel,(76:),qE (6:) H' λb u nb e=>g b u nb (g1 _ _ e)⟩
  .have c':¬(((Q7 (addPs ps (J.map (·.2.2.1)))).length:Nat):Int)>40:=λz=>c (decide_eq_true z);rw [Zq]at c';exact q (6:) H' (λb u nb e=>g b u nb (g1 _ _ e)) L
theorem Ai:FnScope ["mode","numbers"] ["mode","numbers"] (defScope LO):=(0:)
theorem SD{n:Nat}(F:Fun K "numbered_mode" "numbered_mode" LO f fd)(RM:Fn P w K mg base (n+1) "with_modes" ["term","numbers"] (JE K n)):FnOk P w K mg base CX0 (n+2) f fd ["mode","numbers"] (Oa K n):=by
 refine F.ok Ai (11:) (λak A outer s H vs Q E hr h=>?_)
 .obtain⟨mp,lr,d,U,ws,os,ps,rfl,_⟩:=h
  rfl
 obtain⟨mp,lr,d,U,ws,os,ps,rfl,Z,aa,ab,al,hd,ae,q⟩:=h;refine⟨_,(Qi (Ql (Qx (Qa (4:) (Qa (QH (CompG.many (xs:=["rule"]) (caps:=["numbers"]) (cap:=[1]) (cs:=[_]) rfl rfl (1:) (1:) (1:) (1:) (1:) (1:) rfl rfl rfl) rfl (QG (4:)) (Z7 (CompG.many (xs:=["rule"]) (caps:=["numbers"]) (cap:=[1]) (cs:=[_]) rfl rfl (1:) (1:) (1:) (1:) (1:) (1:) rfl rfl rfl)) (92:) (λ_ _ _ _=>QF RM hr (Qa (pv 0) (Qa (pv 1) Qe)) (7:))) Qe))))),?_⟩
 try dsimp only [Qn,Cx.nox]
 have aj:=ab.length;refine⟨_,rfl,mp,_,0,_,rfl,rfl,Z,rfl,_,rfl,mp,_,1,_,rfl,rfl,Z,rfl,lr,rfl,⟨_,aa⟩,λacc J=>?_⟩;refine Yl (K:=K) (xs:=ws) (cs:=[some (.ref d)]) (tt:=λ_ H Q=>Q true H) (te:=Wi (JE K n) [] E0 (Yp (UE 0) (Yp (UE 1) GD))) (λi ys H'=>H' acc=some (.lst ys)/\Same H H'/\ys.length=i/\TmAll K H' ys ((os.take i).map (mpP (ixP ps))))
  ⟨Qb,Qc J _,rfl,.nil⟩ ?_ ?_ ?_
 .rintro i ys H' _ ⟨_,g,_⟩;exact g.seq aa
 .rintro i x ys H' hi hx ⟨G,g,ac,L⟩;have ad:i<os.length:=by lia
  have hc:=List.getElem?_eq_getElem ad;obtain⟨cv,af,ag⟩:=ab.get hc;obtain rfl:cv=x:=Option.some.inj (af.symm.trans hx);obtain⟨o1,o2⟩:=ae _ (List.getElem_mem ad);refine Zk ⟨_,rfl,_,rfl,cv,d,ps,os[i],rfl,ag.mono (KeepT.same g),o1,g _ _ hd,o2,λv' H4 Y ah=>?_⟩;refine QB (ys:=ys) hi (Y _ _ G) (6:) ⟨Qb,λx u e=>?_,by simp [ac],?_⟩
  .rw [Qg (Qd e J)];exact Y _ _ (g _ _ e)
  .rw [List.take_add_one,hc];show TmAll K _ (ys++[v']) ((os.take i++[os[i]]).map (mpP (ixP ps)));rw [List.map_append];refine TmAll.append (L.mono λ_ _ h=>(Y.seqT h).put (Y _ _ G)) (.cons (ah.mono λ_ _ h=>h.put (Y _ _ G)) .nil)
 rintro ys H1 ⟨G,g,ac,L⟩;have ai:os.take ws.length=os:=List.take_of_length_le (6:);rw [ai]at L;refine⟨(30:),λp hp=>?_⟩;have k1:=Qc hp (.tup [.str U,.ref acc]);exact q p acc ys _ (g.trans k1) Qb J (k1 _ _ G) (L.mono λ_ _=>k1.seqT)
end
end K65
namespace K65
open PySem L2 TM TT K9 K11
abbrev MkP:=Pr->Str×List TP
def clL(os:List TP):List Pr:=(Zb os).map (·.1)
abbrev MkX:=Pr->Option (Str×List TP)
def mkD(mk:MkX):MkP:=λp=>(mk p).getD (S [],[])
theorem UU{mk:MkX}{p:Pr}{o:Str×List TP}(h:mk p=some o):mkD mk p=o:=by unfold mkD;rw [h];rfl
def QY(mk:MkX):Nat->Nat->List Pr->Option (List Pr)
 | 0,_,_=>none
 | F+1,m,ps=>if 40<ps.length then none else match ps[m]? with
  | none=>some ps
  | some p=>match mk p with
   | none=>none
   | some o=>QY mk F (m+1) (addPs ps (clL o.2))
theorem YD{mk:MkX}{F m:Nat}{ps:List Pr}(h:40<ps.length):QY mk F m ps=none:=by
 cases F with
 | zero=>rfl
 | succ F=>rw [QY,if_pos h]
theorem Zf{mk:MkX}{F m:Nat}{ps:List Pr}(h:ps.length<=40)(e:ps[m]?=none):QY mk (F+1) m ps=some ps:=by
 rw [QY,if_neg (6:),e]
theorem XJ{mk:MkX}{F m:Nat}{ps:List Pr}{p:Pr}(e:ps[m]?=some p)(k:mk p=none):QY mk (F+1) m ps=none:=by
 by_cases h:40<ps.length
 .exact YD h
 .rw [QY,if_neg h,e];simp only [k]
theorem Zi{mk:MkX}{F m:Nat}{ps:List Pr}{p:Pr}{o:Str×List TP}(h:ps.length<=40)(e:ps[m]?=some p)(k:mk p=some o):QY mk (F+1) m ps=QY mk F (m+1) (addPs ps (clL o.2)):=by
 rw [QY,if_neg (6:),e];simp only [k]
def spL(K:Fg)(N:Addr)(H0:Hp)(mk:MkX)(Ok:Pr->Prop):Sp:=λvs H Q E=>∃(pp:Addr)(pr:Pr),vs=[.ref pp]/\Same H0 H/\H pp=some (.tup [.int pr.1,.int pr.2])/\Ok pr/\
 (∀o,mk pr=some o->∀(p lr:Addr)(ws:List V)(H':Hp),Same H H'->H' p=some (.tup [.str o.1,.ref lr])->H lr=none->H' lr=some (.lst ws)->TpAll K H' ws o.2->Q (.ref p) H')/\(mk pr=none->∀H':Hp,Same H H'->E (.ref N) none H')
structure NewMo(K:Fg)(H H':Hp)(lm:Addr)(ms:List MoT):Prop where
 n0:H lm=none
 at0:H' lm=some (.lst (ms.map λm=>V.ref m.1))
 mo:∀m∈ms,SqT K H' m.1 [.str m.2.1,.ref m.2.2.1]/\H' m.2.2.1=some (.lst m.2.2.2.1)/\H m.2.2.1=none/\m.2.2.1≠lm/\TmAll K H' m.2.2.2.1 m.2.2.2.2
def dM(ms:List MoT):List (Str×List Tm):=ms.map λm=>(m.2.1,m.2.2.2.2)
def dQ(mk:MkP)(qs:List Pr):List (Str×List Tm):=qs.map λp=>((mk p).1,(mk p).2.map (mpP (ixP qs)))
def Tt(P:Program)(w:World)(K:Fg)(mg:Str->Option Value)(base:Heap)(N:Addr)(k n:Nat):Sp:=λvs H Q E=>∃(wd lf:Addr)(sv:V)(ks:List KdT)(t:TP)(e:Expr)(cl:List (38:))(mk:MkX)(Ok:Pr->Prop),vs=[.ref wd,sv,.ref lf,.int 40]/\WoodAt K H wd ks/\ks.length<=100/\TpV K H sv t/\lv t<=n/\sz t<=1000/\LamAtC H lf e cl/\Lx P w K mg base k e cl (spL K N H mk Ok)/\(∀c∈clP t,Ok c.1)/\(∀p o,Ok p->mk p=some o->o.2.length<=100/\(∀u∈o.2,lv u<=n/\sz u<=1000)/\∀c∈clL o.2,Ok c)/\
 (∀qs,QY mk 42 0 (addPs [] ((clP t).map (·.1)))=some qs->∀(r tu lw lm d:Addr)(sv':V)(ks':List KdT)(ms:List MoT)(H':Hp),Same H H'->SqT K H' r [.ref tu,.ref d]->SqT K H' tu [.ref lw,sv',.ref lm]->NewWd K H H' lw ks'->dW ks'=dW ks->TmV K H' sv' (mpP (ixP qs) t)->NewMo K H H' lm ms->dM ms=dQ (mkD mk) qs->lw≠lm->(∀k∈ks',k.2.2.1≠lm/\∀m∈ms,k.2.2.1≠m.2.2.1)->(∀m∈ms,lw≠m.2.2.1)->Q (.ref r) H')/\
 (QY mk 42 0 (addPs [] ((clP t).map (·.1)))=none->∀H':Hp,Same H H'->E (.ref N) none H')
theorem Same.none{H H':Hp}{b:Addr}(g:Same H H')(h:H' b=none):H b=none:=by
 cases e:H b with
 | none=>rfl
 | some u=>rw [g _ _ e]at h;cases h
theorem NewWd.ext{K:Fg}{H0 H H' H'':Hp}{lw:Addr}{ks:List KdT}(g0:Same H0 H)(g1:Same H' H'')(h:NewWd K H H' lw ks):NewWd K H0 H'' lw ks:=
 ⟨Same.none g0 h.n0,g1 _ _ h.at0,λk G=>⟨g1.seqT (h.kd k G).1,g1 _ _ (h.kd k G).2.1,Same.none g0 (h.kd k G).2.2.1,λt J=>((h.kd k G).2.2.2 t J).same g1⟩⟩
theorem UR:∀l r:List TP,Zb (l++r)=Zb l++Zb r
 | [],r=>by simp [Zb]
 | t::l,r=>by rw [List.cons_append,Zb,Zb,UR l r,List.append_assoc]
theorem Je(l:List TP)(o:TP):clL (l++[o])=clL l++(clP o).map (·.1):=by unfold clL;rw [Xd,List.map_append]
theorem VL(ps:List Pr)(l:List TP)(i:Nat):(addPs ps (clL (l.take i))).length<=(addPs ps (clL l)).length:=by
 have e:clL l=clL (l.take i)++clL (l.drop i):=by
  unfold clL;rw [<-List.map_append,<-UR,List.take_append_drop]
 rw [e,Zl];exact Ym
def MoP(K:Fg)(mk:MkP)(H:Hp)(lm:Addr)(ps:List Pr)(mos:List (Addr×Addr×List V)):Prop:=mos.length<=ps.length/\∀(i:Nat) m p,mos[i]?=some m->ps[i]?=some p->H m.1=some (.tup [.str (mk p).1,.ref m.2.1])/\H m.2.1=some (.lst m.2.2)/\m.2.1≠lm/\TpAll K H m.2.2 (mk p).2
abbrev asN:List Str:=["wood","start","mode_by","most","numbers","modes","mode","rule","turning"]
section
variable{P:Program}{w:World}{K:Fg}{mg:Str->Option Value}{base:Heap}{f:Addr}{fd:FuncData}{N:Addr}
theorem G1:FnScope asN ["wood","start","mode_by","most"] (defScope XN):=(0:)
theorem Tr{k n:Nat}(F:Fun K "as_met" "as_met" XN f fd)(G:Gm mg)(RN:FnX P w K mg base (n+2) "number_calls" ["numbers","term","most"] (R1 K N n))(RW:Fn P w K mg base 1 "own_wood" ["wood"] (Vp K))(RM:Fn P w K mg base (n+1) "with_modes" ["term","numbers"] (JE K n))(RE:Fn P w K mg base (n+2) "numbered_mode" ["mode","numbers"] (Oa K n)):
 FnOk P w K mg base (CX1 P w) (n+k+3) f fd ["wood","start","mode_by","most"] (Tt P w K mg base N k n):=by
 refine Fun.okX F G1 (11:) (λc9 A outer s H vs Q E hr h=>?_)
 .obtain⟨wd,lf,sv,ks,t,e,cl,mk,Ok,rfl,_⟩:=h
  rfl
 obtain⟨wd,lf,sv,ks,t,e,cl,mk,Ok,rfl,hW,cg,bn,bo,ch,ci,hC,cj,bp,q,qE⟩:=h;have ck:Room k _:=hr.mono (6:);have ag:Room (n+2) _:=hr.mono (6:);refine⟨_,(Qh (Qz (i:=4) G1.nd rfl (Or.inr rfl) Wj)
  (Qh (QL (XR (EE:=λ_=>E) RN ag (YK λ_ _ h=>h) (Qa (pv 4) (Qa (pv 1) (Qa (pv 3) Qe))) (7:)))
  (Qh (Qz (i:=5) G1.nd rfl (32:) (Yt Qe))
  (Qh (U5 PassesOwn.leaving (QC WM (Qq Qs rfl G.len PySem.boot_len (Qa (pv 5) Qe)) (Qq LD.call_lenDT rfl G.len PySem.boot_len (Qa (pv 4) Qe)) (QK _)) (Qh (Qz (i:=6) G1.nd rfl (32:) (GK (EE:=λ_=>E) (i:=2) hC ck (YK λ_ _ h=>h) (Qa (Qk QP (QI (LD.call_listDT rfl) rfl G.lst PyProof.Rows.boot_list (Qa (pv 4) Qe)) (Qq Qs rfl G.len PySem.boot_len (Qa (pv 5) Qe)) (26:)) Qe)))
  (Qh (QX PassesOwn.leaving rfl (QG (Qk Qj (pv 6) Qf (26:))) (Qw (i:=7) G1.nd rfl (32:)) (Qi (QL (XR (EE:=λ_=>E) RN ag (YK λ_ _ h=>h) (Qa (pv 4) (Qa (pv 7) (Qa (pv 3) Qe))) (7:)))))
  (Qi (QL (U1 PySem.F.plainAttrs_list PySem.F.slot_list_append PySem.F.type_list_append ZG (pv 5) (Qa (pv 6) Qe)))))))
  (Qh (Qz (i:=8) G1.nd rfl (32:) (Qx (Qa (QF RW ag (Qa (pv 0) Qe) (6:)) (Qa (QF RM ag (Qa (pv 1) (Qa (pv 4) Qe)) (6:)) (Qa (QH (CompG.many (xs:=["mode"]) (caps:=["numbers"]) (cap:=[4]) (cs:=[_]) rfl rfl (1:) (1:) (1:) (1:) (1:) (1:) rfl rfl rfl) rfl (QG (pv 5)) (Z7 (CompG.many (xs:=["mode"]) (caps:=["numbers"]) (cap:=[4]) (cs:=[_]) rfl rfl (1:) (1:) (1:) (1:) (1:) (1:) rfl rfl rfl)) (92:) (λ_ _ _ _=>QF RE ag (Qa (pv 0) (Qa (pv 1) Qe)) (7:))) Qe)))))
  (Qi (Ql (Qx (Qa (pv 8) (Qa (pv 4) Qe)))))))))),?_⟩
 try dsimp only [Qn,Cx.nox]
 refine λd hd=>?_;have g1:=Qc hd (.dT (Q7 []));have cm:upd H d (.dT (Q7 [])) d=some (.dT (Q7 [])):=Qb;generalize hR:QY mk 42 0 (addPs [] ((clP t).map (·.1)))=R at q qE;refine⟨_,rfl,_,rfl,_,rfl,sv,d,[],t,rfl,bn.mono (KeepT.same g1),bo,ch,cm,by decide,λbj H2 g2 bq=>?_,λhb H2 g2=>qE (by rw [<-hR];exact YD hb) H2 λb u e=>g2 b u (Qd e hd) (g1 b u e)⟩;have s2:Same H H2:=λb u e=>g2 b u (Qd e hd) (g1 b u e);refine⟨(99:),λY as=>?_⟩;have g3:=Qc as (.lst []);have cc:H Y=none:=Same.none s2 as;have br:Y≠d:=λz=>by rw [z,bq]at as;cases as
 refine Gk (λm σ H'=>∃(j:Nat)(ps:List Pr)(J:List (Addr×Addr×List V))(c6 c7:Option V),σ=[some (.ref wd),some sv,some (.ref lf),some (.int 40),some (.ref d),some (.ref Y),c6,c7,none]/\Same H H'/\H' d=some (.dT (Q7 ps))/\H' Y=some (.lst (J.map λm=>V.ref m.1))/\J.length=j/\m+j=41/\ps.length<=40/\(∀p∈ps,Ok p)/\QY mk (42-j) j ps=R/\(∀(i:Nat) p,i<j->ps[i]?=some p->∃o,mk p=some o)/\MoP K (mkD mk) H' Y ps J/\(∀c∈clP t,c.1∈ps)/\∀(i:Nat) p,i<j->ps[i]?=some p->∀c∈clL (mkD mk p).2,c∈ps) 41
  ⟨0,_,[],none,none,rfl,s2.trans g3,g3 _ _ bq,Qb,rfl,rfl,bj,λp hp=>?_,hR,λi p hi=>absurd hi (Nat.not_lt_zero _),⟨Nat.zero_le _,λi m p e=>by simp at e⟩,λc hc=>QN.mpr (.inr (List.mem_map.mpr ⟨c,hc,rfl⟩)),λi p hi=>absurd hi (Nat.not_lt_zero _)⟩ ?_ ?_
 .rcases QN.mp hp with z | z
  .cases z
  .obtain⟨c,hc,rfl⟩:=List.mem_map.mp z;exact cj c hc
 .rintro m σ H' ⟨j,ps,J,c6,c7,rfl,g,ah,ab,hj,Z,ao,a5,U,bt,a6,bu,bv⟩;refine⟨_,rfl,Y,_,rfl,.inl (SqL.of ab),_,rfl,d,_,rfl,ah,_,_,rfl,rfl,_,rfl,WE (λc=>?_) (λc=>?_)⟩
  .have c':(((J.map λm=>V.ref m.1).length:Nat):Int)<(((Q7 ps).length:Nat):Int):=of_decide_eq_true c;rw [List.length_map,Zq]at c';have a7:j<ps.length:=by lia
   refine⟨lf,rfl,_,rfl,d,_,ps,rfl,ah,Lp ps,λout l eo ho hl=>?_⟩;have gl:=Qc hl (.lst (out.map λt=>V.ref t.1));have da:out.length=ps.length:=by have:=congrArg List.length eo;rwa [List.length_map]at this
   have a8:j<out.length:=by lia
   have cn:out[j].2=ps[j]:=by
    have:(out.map (·.2))[j]?=ps[j]?:=by rw [eo]
    rw [List.getElem?_map,List.getElem?_eq_getElem a8,List.getElem?_eq_getElem a7]at this;exact Option.some.inj this
   have co:=ho _ (List.getElem_mem a8);have ai:=List.getElem?_eq_getElem a7;have hF:42-j=(41-j)+1:=by lia
   rw [hF]at U;have bw:=a5 _ (List.getElem_mem a7);refine⟨_,rfl,Y,_,rfl,.inl (SqL.of (gl _ _ ab)),l,_,_,.ref out[j].1,rfl,rfl,SqL.of Qb,(by rw [List.length_map,hj];exact Qo (by rw [List.getElem?_map,List.getElem?_eq_getElem a8];rfl)),(ci.same g).same gl,out[j].1,ps[j],rfl,g.trans gl,(by rw [<-cn];exact gl _ _ co),bw,λoo au p lr ws H6 g6 hp a9 av ba=>?_,λcp H6 g6=>qE (by rw [<-U];exact XJ ai cp) H6 (g.trans (gl.trans g6))⟩;obtain⟨bb,aw,cq⟩:=bp _ _ bw au;rw [Zi ao ai au]at U;have bx:=UU au;have ac:=gl.trans g6;have aj:=ac _ _ ah;have ce:=ac _ _ ab;have db:=ba.length;have bc:lr≠Y:=λz=>by rw [z,gl _ _ ab]at a9;cases a9
   refine⟨_,rfl,p,_,1,_,rfl,rfl,SqT.of hp,rfl,lr,rfl,⟨_,SqL.of av⟩,?_⟩;refine ZJ (K:=K) (xs:=ws) (λr σ ad=>∃c7:Option V,σ=[some (.ref wd),some sv,some (.ref lf),some (.int 40),some (.ref d),some (.ref Y),some (.ref p),c7,none]/\SameX d H6 ad/\(addPs ps (clL (oo.2.take r))).length<=40/\ad d=some (.dT (Q7 (addPs ps (clL (oo.2.take r))))))
    ⟨c7,rfl,SameX.refl _ _,ao,aj⟩ ?_ ?_ ?_
   .rintro r σ ad _ ⟨c7,_,L,_⟩;exact SqL.of (L _ _ (ne_of av aj (10:)) av)
   .rintro r x σ ad hx ⟨c7,rfl,L,dc,ax⟩;have bd:r<oo.2.length:=by
     have:=(72:).1;lia
    obtain⟨cv,cr,ct⟩:=ba.get (List.getElem?_eq_getElem bd);obtain rfl:cv=x:=Option.some.inj (cr.symm.trans hx);obtain⟨o1,o2⟩:=aw _ (List.getElem_mem bd);have ay:addPs (addPs ps (clL (oo.2.take r))) ((clP oo.2[r]).map (·.1))=addPs ps (clL (oo.2.take (r+1))):=by
     rw [<-Zl,<-Je,List.take_add_one,List.getElem?_eq_getElem bd];rfl
    refine⟨_,rfl,_,rfl,_,rfl,cv,d,_,oo.2[r],rfl,ct.mono (KeepT.dt aj L),o1,o2,ax,by lia,λbz H8 g8 b0=>?_,λb5 H8 g8=>?_⟩
    .rw [ay]at b0 bz;exact⟨_,rfl,L.trans g8,bz,b0⟩
    .rw [ay]at b5;refine qE (by rw [<-U];exact YD (Nat.lt_of_lt_of_le b5 (VL _ _ _))) H8 λb u e=>?_;exact(L.trans g8) _ _ (Qd e hd) ((g.trans ac) _ _ e)
   .rintro σ ad ⟨c7,rfl,L,be,ax⟩;rw [List.take_of_length_le (6:)]at ax be;have ap:=L _ _ br ce;have bf:J.length<=100:=by lia
    refine⟨_,rfl,.inl ⟨rfl,_,SqL.of ap⟩,_,rfl,Y,_,_,rfl,rfl,ap,(by rw [List.length_map,QT];lia),?_⟩;have kp:KeepT K H6 (upd ad Y (.lst (J.map (λm=>V.ref m.1)++[.ref p]))):=(KeepT.dt aj L).trans (KeepT.put ap);have ls:∀b ys,b≠Y->H6 b=some (.lst ys)->upd ad Y (.lst (J.map (λm=>V.ref m.1)++[.ref p])) b=some (.lst ys):=λb ys nb e=>by
     rw [Qg nb];exact L _ _ (ne_of e aj (10:)) e
    obtain⟨rr,b6⟩:=Zm (ps:=ps) (l:=clL oo.2);have aq:∀i:Nat,i<=j->(addPs ps (clL oo.2))[i]?=ps[i]?:=λi hi=>by rw [b6,List.getElem?_append_left (6:)]
    refine⟨m-1,by lia,j+1,addPs ps (clL oo.2),J++[(p,lr,ws)],_,_,rfl,?_,?_,by rw [Qb,List.map_append];rfl,by rw [List.length_append,hj];rfl,by lia,be,λp hp=>?_,?_,?_,⟨?_,?_⟩,λc hc=>QN.mpr (.inl (bu c hc)),?_⟩
    .intro b u e;rw [Qg (Qd e cc)];exact L _ _ (Qd e hd) ((g.trans ac) _ _ e)
    .rw [Qg (Ne.symm br)];exact ax
    .rcases QN.mp hp with z | z
     .exact a5 p z
     .exact cq p z
    .rw [show 42-(j+1)=41-j by lia];exact U
    .intro i pr hi h2;rw [aq i (6:)]at h2;rcases Nat.lt_or_ge i j with z | z
     .exact bt i pr z h2
     .obtain rfl:i=j:=by lia
      rw [ai]at h2;obtain rfl:=Option.some.inj h2;exact⟨oo,au⟩
    .rw [List.length_append,b6,List.length_append];simp only [List.length_singleton];lia
    .intro i mo pr h1 h2;have dd:i<j+1:=by
      have:=(List.getElem?_eq_some_iff.mp h1).1;rw [List.length_append,hj]at this;exact this
     rw [aq i (6:)]at h2;rcases Nat.lt_or_ge i j with z | z
     .rw [List.getElem?_append_left (6:)]at h1;obtain⟨b1,b2,b3,b4⟩:=a6.2 i mo pr h1 h2;exact⟨kp.2 _ _ (ac _ _ b1),ls _ _ b3 (ac _ _ b2),b3,b4.mono ((KeepT.same ac).trans kp)⟩
     .obtain rfl:i=j:=by lia
      rw [List.getElem?_append_right (6:),show i-J.length=0 by lia]at h1;obtain rfl:(p,lr,ws)=mo:=by simpa using h1
      rw [ai]at h2;obtain rfl:=Option.some.inj h2;rw [bx];exact⟨kp.2 _ _ hp,ls _ _ bc av,bc,ba.mono kp⟩
    .intro i pr hi h2 c hc;rw [aq i (6:)]at h2;rcases Nat.lt_or_ge i j with z | z
     .exact QN.mpr (.inl (bv i pr z h2 c hc))
     .obtain rfl:i=j:=by lia
      rw [ai]at h2;obtain rfl:=Option.some.inj h2;rw [bx]at hc;exact QN.mpr (.inr hc)
  .have c':¬((((J.map λm=>V.ref m.1).length:Nat):Int)<(((Q7 ps).length:Nat):Int)):=λz=>c (decide_eq_true z);rw [List.length_map,Zq]at c';have cu:ps.length<=j:=by lia
   have cw:ps[j]?=none:=List.getElem?_eq_none cu;have hF:42-j=(41-j)+1:=by lia
   rw [hF,Zf ao cw]at U;have q:=q ps U.symm;have de:J.length=ps.length:=by have:=a6.1;lia
   refine⟨_,rfl,wd,ks,rfl,hW.same g,cg,λlw H9 cx g9 az cy=>?_⟩;have cz:=g9 _ _ ah;refine⟨_,rfl,_,rfl,sv,d,ps,t,rfl,bn.mono (KeepT.same (g.trans g9)),bo,cz,bu,λb7 b8 a0 cf=>?_⟩;have ak:=g9.trans a0;have bg:=ak _ _ ab;refine⟨_,rfl,Y,rfl,⟨_,SqL.of bg⟩,λacc ae=>?_⟩;refine Yl (K:=K) (xs:=J.map λm=>V.ref m.1) (cs:=[some (.ref d)]) (tt:=λ_ H Q=>Q true H) (te:=Wi (Oa K n) [] E0 (Yp (UE 0) (Yp (UE 1) GD))) (λi ys H'=>∃ms:List MoT,ys=ms.map (λm=>V.ref m.1)/\H' acc=some (.lst ys)/\Same b8 H'/\ms.length=i/\dM ms=(dQ (mkD mk) ps).take i/\∀m∈ms,SqT K H' m.1 [.str m.2.1,.ref m.2.2.1]/\H' m.2.2.1=some (.lst m.2.2.2.1)/\b8 m.2.2.1=none/\m.2.2.1≠acc/\TmAll K H' m.2.2.2.1 m.2.2.2.2)
    ⟨[],rfl,Qb,Qc ae _,rfl,rfl,λm Z=>(nomatch Z)⟩ ?_ ?_ ?_
   .rintro i ys H' _ ⟨_,_,_,L,_⟩;exact SqL.of (L _ _ bg)
   .rintro i x ys H' hi hx ⟨ms,rfl,a1,L,bf,a3,aa⟩;have b9:i<J.length:=by rwa [List.length_map]at hi
    have al:i<ps.length:=by lia
    obtain rfl:x=.ref J[i].1:=by
     rw [List.getElem?_map,List.getElem?_eq_getElem b9]at hx;exact(Option.some.inj hx).symm
    obtain⟨b1,b2,b3,b4⟩:=a6.2 i _ _ (List.getElem?_eq_getElem b9) (List.getElem?_eq_getElem al);have a4:=ak.trans L;obtain⟨oi,ca⟩:=bt i _ (6:) (List.getElem?_eq_getElem al);obtain⟨bb,aw,_⟩:=bp _ _ (a5 _ (List.getElem_mem al)) ca;rw [<-UU ca]at bb aw;refine Zk ⟨_,rfl,_,rfl,J[i].1,J[i].2.1,d,(mkD mk ps[i]).1,J[i].2.2,(mkD mk ps[i]).2,ps,rfl,SqT.of (a4 _ _ b1),SqL.of (a4 _ _ b2),b4.mono (KeepT.same a4),bb,a4 _ _ ah,λo ho=>⟨(aw o ho).1,λc hc=>?_⟩,λpp lq us df am c0 ar c1 c2=>?_⟩
    .exact bv i _ (6:) (List.getElem?_eq_getElem al) c.1 (List.mem_map.mpr ⟨c,VP ho hc,rfl⟩)
    have af:=am _ _ a1;have cb:lq≠acc:=λz=>by rw [z,a1]at ar;cases ar
    refine QB (ys:=ms.map λm=>V.ref m.1) hi af (36:) ⟨ms++[(pp,(mkD mk ps[i]).1,lq,us,(mkD mk ps[i]).2.map (mpP (ixP ps)))],by simp,Qb,λz u e=>?_,by simp [bf],?_,λm Z=>?_⟩
    .rw [Qg (Qd e ae)];exact am _ _ (L _ _ e)
    .have c3:(dQ (mkD mk) ps)[i]?=some ((mkD mk ps[i]).1,(mkD mk ps[i]).2.map (mpP (ixP ps))):=by unfold dQ;rw [List.getElem?_map,List.getElem?_eq_getElem al];rfl
     rw [List.take_add_one,c3,<-a3];unfold dM;rw [List.map_append];rfl
    .rcases List.mem_append.mp Z with z | z
     .obtain⟨d1,d2,d3,d4,d5⟩:=aa m z;exact⟨(am.seqT d1).put af,by rw [Qg d4];exact am _ _ d2,d3,d4,d5.mono λ_ _ h=>(am.seqT h).put af⟩
     .obtain rfl:=List.mem_singleton.mp z;exact⟨(SqT.of c0).put af,by rw [Qg cb];exact c1,Same.none L ar,cb,c2.mono λ_ _ h=>h.put af⟩
   rintro ys dg ⟨ms,rfl,a1,L,bf,a3,aa⟩;rw [List.take_of_length_le (by unfold dQ;rw [List.length_map,List.length_map];lia)]at a3;refine⟨(98:),λtu c4=>?_⟩;have k1:=Qc c4 (.tup [.ref lw,b7,.ref acc]);refine⟨_,rfl,_,rfl,(30:),λr hr=>?_⟩;have k2:=Qc hr (.tup [.ref tu,.ref d]);have an:=k1.trans k2;have gA:=L.trans an;have c5:H acc=none:=Same.none (g.trans ak) ae;have bi:∀b u,H9 b=some u->b≠acc/\∀m∈ms,b≠m.2.2.1:=by
    intro b u e;refine⟨λz=>?_,λm Z z=>?_⟩
    .rw [z]at e;rw [a0 _ _ e]at ae;cases ae
    .have:=(aa m Z).2.2.1;rw [<-z,a0 _ _ e]at this;cases this
   exact q r tu lw acc d b7 cx ms _ ((g.trans ak).trans gA) (SqT.of Qb) (k2.seqT (SqT.of Qb)) (az.ext g (a0.trans gA)) cy (cf.mono λ_ _=>gA.seqT) ⟨c5,an _ _ a1,λm Z=>⟨an.seqT (aa m Z).1,an _ _ (aa m Z).2.1,Same.none (g.trans ak) (aa m Z).2.2.1,(aa m Z).2.2.2.1,(aa m Z).2.2.2.2.mono λ_ _=>an.seqT⟩⟩ a3
    (bi _ _ az.at0).1 (λk hk=>bi _ _ (az.kd k hk).2.1) (bi _ _ az.at0).2
 .intro σ H Q Q' Z h;obtain⟨v1,h1,x1,x2,h2,h3,v2,h4,x3,x4,h5,h6,x5,x6,h7,h8,x7,h9,c8⟩:=h;exact⟨v1,h1,x1,x2,h2,h3,v2,h4,x3,x4,h5,h6,x5,x6,h7,h8,x7,h9,Z _ _ c8⟩
end
end K65
namespace K65
open PySem L2 TM TT K9 K11
def TB(e:Expr):Expr:=match e with
 | .Subscript o _ _=>o
 | _=>e
abbrev eL:Expr:=S0 (TB (S8 Yf)) 2
abbrev qL:Str:=(PyProof.Rows.envOfC "behind" (defScope Yf) 0 0 .none).qual++"<lambda>"
abbrev pL:Pos:=Vg eL
structure KeepS(K:Fg)(H H':Hp):Prop where
 t:∀a xs,SqT K H a xs->SqT K H' a xs
 l:∀a xs,SqL K H a xs->SqL K H' a xs
theorem KeepS.tb{K:Fg}{H H':Hp}{T:Addr}{ps:Array Value}(h:H T=some (.tbl ps))(g:SameX T H H'):KeepS K H H':=by
 constructor
 .intro a xs q;rcases q with(q | ⟨o,q⟩) | q
  .exact .inl (.inl (g _ _ (ne_of q h (10:)) q))
  .exact .inl (.inr ⟨o,g _ _ (ne_of q h (10:)) q⟩)
  .exact .inr q
 .intro a xs q;rcases q with(q | ⟨o,q⟩) | q
  .exact .inl (.inl (g _ _ (ne_of q h (10:)) q))
  .exact .inl (.inr ⟨o,g _ _ (ne_of q h (10:)) q⟩)
  .exact .inr q
theorem KeepT.tb{K:Fg}{H H':Hp}{T:Addr}{ps:Array Value}(h:H T=some (.tbl ps))(g:SameX T H H'):KeepT K H H':=⟨(KeepS.tb h g).t,λa xs q=>g _ _ (ne_of q h (10:)) q⟩
theorem TuAt.keep{K:Fg}{H H':Hp}{tu wd lm:Addr}{sv:V}{ks:List KdT}{t0:Tm}{ms:List MoT}(g:KeepS K H H')(h:TuAt K H tu wd sv lm ks t0 ms):TuAt K H' tu wd sv lm ks t0 ms:=
 ⟨g.t _ _ h.tu,⟨g.l _ _ h.wd.1,λk G=>⟨g.t _ _ (h.wd.2 k G).1,g.l _ _ (h.wd.2 k G).2.1,λt L=>⟨g.t _ _ ((h.wd.2 k G).2.2 t L).1,g.t _ _ ((h.wd.2 k G).2.2 t L).2⟩⟩⟩,h.st.mono g.t,g.l _ _ h.lm,λm J=>⟨g.t _ _ (h.mo m J).1,g.l _ _ (h.mo m J).2.1,(h.mo m J).2.2.mono g.t⟩⟩
structure Bh(n:Nat)(ks2:List KdT)(t1 t2:Tm)(ms1 ms2:List MoT)(out:TP)(mk:MkX)(Ok:Pr->Prop):Prop where
 st:BR (ruK ks2 ms2) n t2 (.node (.put (Str.ofString "") false 0) 0 [t1]) out
 o0:Y4 out->∀c∈clP out,Ok c.1
 mo:∀p,Ok p->∃(i:Nat)(mo:MoT)(os:List TP),p.1=(i:Int)/\ms1[i]?=some mo/\mo.2.2.2.2.length<=100/\Jj (ruK ks2 ms2) n p.2 mo.2.2.2.2 os/\((∀o∈os,Y4 o)->mk p=some (mo.2.1,os))/\(¬(∀o∈os,Y4 o)->mk p=none)
 cl:∀p o,Ok p->mk p=some o->∀c∈clL o.2,Ok c
theorem Bh.got{n:Nat}{ks2:List KdT}{t1 t2:Tm}{ms1 ms2:List MoT}{out:TP}{mk:MkX}{Ok:Pr->Prop}(h:Bh n ks2 t1 t2 ms1 ms2 out mk Ok){p:Pr}{o:Str×List TP}(hp:Ok p)(e:mk p=some o):∃(i:Nat)(mo:MoT),p.1=(i:Int)/\ms1[i]?=some mo/\mo.2.2.2.2.length<=100/\Jj (ruK ks2 ms2) n p.2 mo.2.2.2.2 o.2/\o.1=mo.2.1/\∀u∈o.2,Y4 u:=by
 obtain⟨i,mo,os,J,a2,L,U,Y,Z⟩:=h.mo p hp
 by_cases G:∀o∈os,Y4 o
 .rw [Y G]at e;obtain rfl:=Option.some.inj e;exact⟨i,mo,J,a2,L,U,rfl,G⟩
 .rw [Z G]at e;cases e
def Z2(K:Fg)(T N NS:Addr)(n1 n:Nat):Sp:=λvs H Q E=>∃(on ot wd1 wd2 lm1 lm2:Addr)(sv1 sv2:V)(ks1 ks2:List KdT)(k01 k00:KdT)(t1 t2:Tm)(ms1 ms2:List MoT)(nm1 nm2 n2:Nat),vs=[.ref on,.ref ot]/\TbS H T pL qL/\TuAt K H on wd1 sv1 lm1 ks1 t1 ms1/\TuOk ks1 nm1 n1 t1 ms1/\ks1[0]?=some k01/\TuAt K H ot wd2 sv2 lm2 ks2 t2 ms2/\TuOk ks2 nm2 n2 t2 ms2/\WG ks2/\ks2[0]?=some k00/\nm1*ks2.length<=1000/\n1<=100/\
 (∀ds,Dem (Qv ks2) n1 t1 k00.2.1 ms1 ds->¬(okk (Qv ks2) n1 t1 k00.2.1/\∀d∈ds,okR (Qv ks2) n1 ms1 d)->∀H':Hp,Same H H'->E (.ref NS) none H')/\
 (∀ds,Dem (Qv ks2) n1 t1 k00.2.1 ms1 ds->(okk (Qv ks2) n1 t1 k00.2.1/\∀d∈ds,okR (Qv ks2) n1 ms1 d)->∃(out:TP)(mk:MkX)(Ok:Pr->Prop),Bh n ks2 t1 t2 ms1 ms2 out mk Ok/\
  (Y4 out->∀qs,QY mk 42 0 (addPs [] ((clP out).map (·.1)))=some qs->∀(tu lw lm:Addr)(sv':V)(ks':List KdT)(ms:List MoT)(H':Hp),SameX T H H'->TbS H' T pL qL->SqT K H' tu [.ref lw,sv',.ref lm]->NewWd K H H' lw ks'->dW ks'=dW ks1->TmV K H' sv' (mpP (ixP qs) out)->NewMo K H H' lm ms->dM ms=dQ (mkD mk) qs->lw≠lm->(∀k∈ks',k.2.2.1≠lm/\∀m∈ms,k.2.2.1≠m.2.2.1)->(∀m∈ms,lw≠m.2.2.1)->Q (.ref tu) H')/\
  (¬Y4 out\/QY mk 42 0 (addPs [] ((clP out).map (·.1)))=none->∀H':Hp,SameX T H H'->TbS H' T pL qL->E (.ref N) none H'))
section
variable{P:Program}{w:World}{K:Fg}{mg:Str->Option Value}{base:Heap}{f:Addr}{fd:FuncData}{C T c N NS:Addr}
theorem SM:FnScope ["one","other","start"] ["one","other"] (defScope Yf):=(0:)
theorem M8:∀y∈(Qu eL).names,y.2≠NameKind.cell:=by decide+kernel
theorem NJ:∀y∈(Qu eL).names,y.2=NameKind.local->y.1=Str.ofString "pair":=by decide+kernel
theorem NP:∀y∈(Qu eL).names,y.2=NameKind.free->y.1=Str.ofString "one" \/y.1=Str.ofString "other":=by decide+kernel
theorem Te:Str.ofString "one"≠Str.ofString "other":=by decide+kernel
theorem Lg{n1 n:Nat}{fA:Addr}{fdA:FuncData}(F:Fun K "behind" "behind" Yf f fd)(hn:PySem.W.nsIn K mainGlobals "behind"=some (some (82:)))(hTb:PySem.W.tabIn K "behind"=some (c,T))(hC:PySem.W.codeHdIn K c T=true)(hB:XZ mg base)
 (RS:Fn P w K mg base (n1+6) "strays_at_all" ["turning","wood"] (MP K n1)) (M:TbM P w K mg base C N n) {t30 t40:Tok} (h30:mg "MOST_LEVELS"=some (.int 30 t30)) (h40:mg "MOST_MODES"=some (.int 40 t40))
 (FA:∀g:Heap,FnOk P w K mg g (CX1 P w) (30+(n+4)+3) fA fdA ["wood","start","mode_by","most"] (Tt P w K mg g N (n+4) 30)) (hmA:mg "as_met"=some (.ref fA)) (hkA:PySem.W.keepIn K (.ref fA)=true) (bA:Binds K fdA ["wood","start","mode_by","most"] [])
 (R:Rs K mg "Strays" NS) (RB:∀g:Heap,FnX P w K mg g (n+3) "mode_behind" ["one","other","pair"] (XV K N n)):FnOk P w K mg base (CX1 P w) (n1+n+50) f fd ["one","other"] (Z2 K T N NS n1 n):=by
 obtain⟨fI,b8,a7,FI,bI⟩:=M.mi;have TT:=M.t;refine Fun.okXC F hn hTb SM (11:) (λA outer s H vs Q E hr h=>?_)
 .obtain⟨on,G,ab,ac,ag,ah,ad,ae,ks1,ks2,ar,as,t1,t2,ms1,ms2,au,ai,n2,rfl,_⟩:=h
  rfl
 obtain⟨on,G,ab,ac,ag,ah,ad,ae,ks1,ks2,ar,as,t1,t2,ms1,ms2,au,ai,n2,rfl,tb,af,av,a1,U,aw,a8,a3,a9,ba,qS,qO⟩:=h;have bb:Room (n1+6) _:=hr.mono (6:);have bc:Room 2 _:=hr.mono (6:);have bd:Room (n+2) _:=hr.mono (6:);have be:Room (30+(n+4)+3) _:=hr.mono (6:);refine⟨_,(Qh (QM (QS (QF RS bb (Qa (pv 0) (Qa (20:) Qe)) (7:))) (Qi (YH R.hm R.hq PySem.F.excBase_ValueError (18:) (Qa (QJ) Qe))) Qr)
  (Qh (Qz (i:=2) SM.nd rfl (32:) (YB (EE:=λ_=>E) M.br TT.cl bd (YK λ_ _ h=>h) (X8 a7 FI bc rfl TT.mgC bI .nil Yq (Qa (pv 1) Qe)) (Qa (20:) (Qa ((Qx (Qa (QJ) (Qa (QJ) (Qa (ZZ) (Qa (Qf) (Qa ((Qx (Qa (4:) Qe))) Qe))))))) (Qa (Ye (v:=.int 30) rfl h30 (51:)) Qe))) (7:)))
  (Qi (Ql (Qk Qj (Ov (EE:=λ_=>E) (λg _=>FA g) be hmA hkA bA (YK λ_ _ h=>h) (λ_=>rfl) (Qa (4:) (Qa (pv 2) (Qa (Ol (c:=c) (T:=T) rfl hC hB) (Qa (Ye (v:=.int 40) rfl h40 (51:)) Qe))))) Qf (26:)))))),?_⟩
 try dsimp only [Qn,Cx.nox]
 refine⟨_,rfl,_,rfl,G,_,0,_,rfl,rfl,U.tu,rfl,au,on,ab,ag,ac,ad,ks1,ks2,ar,as,t1,ms1,rfl,af,av,a1,U.wd,a8,a3,a9,ba,λH1 b ds g1 hD hb=>?_⟩;cases b with
 | true=>exact⟨_,rfl,Zk ⟨(76:),qS ds hD (λz=>by cases hb.mpr z) _ g1⟩⟩
 | false=>
 obtain⟨out,mk,Ok,aa,q,qE⟩:=qO ds hD (hb.mp rfl);refine⟨_,rfl,Zn ?_⟩;refine⟨_,rfl,λx dx nx bf ne=>⟨x,dx,G,rfl,Qb,rfl,?_⟩⟩;have s5:Same H1 (upd (upd (upd (upd H1 dx (.own x)) x (.ins C dx [])) x (.ins C dx (tb1 G))) x (.ins C dx (tbf G 200))):=λb o e=>by
  rw [Qg (Qd e nx),Qg (Qd e nx),Qg (Qd e nx),Qg (Qd e bf)];exact e
 have aj:upd (upd (upd (upd H1 dx (.own x)) x (.ins C dx [])) x (.ins C dx (tb1 G))) x (.ins C dx (tbf G 200)) x=some (.ins C dx (tbf G 200)):=Qb;generalize upd (upd (upd (upd H1 dx (.own x)) x (.ins C dx [])) x (.ins C dx (tb1 G))) x (.ins C dx (tbf G 200))=H5 at s5 aj ⊢;have g5:=g1.trans s5;refine⟨x,dx,_,rfl,aj,rfl,_,rfl,G,_,1,_,rfl,rfl,g5.seqT U.tu,rfl,_,rfl,on,_,1,_,rfl,rfl,g5.seqT af.tu,rfl,(76:),λp1 bg=>⟨(by show 5<=sizeLine;decide),λp5 bi=>?_⟩⟩;have k1:=Qc bg (.tup [ad]);have k2:=Qc bi (.tup [.str PUT,.str (Str.ofString ""),.bl false,.int 0,.ref p1]);have g6:=g5.trans (k1.trans k2);refine⟨x,dx,G,ac,ah,ae,ks2,t2,ms2,ai,n2,200,30,ae,.ref p5,t2,.node (.put (Str.ofString "") false 0) 0 [t1],out,rfl,(k1.trans k2) _ _ aj,U.same g6,aw,U.st.mono λ_ _=>g6.seqT,.put (SqT.of Qb) (k2.seqT (SqT.of Qb)) (.cons (af.st.mono λ_ _=>g6.seqT) .nil) (21:),aa.st,by decide,λfz fl v H7 gx b9 bj=>?_,λhz H7 gx=>?_⟩
 rotate_left
 .have Z:Same H H7:=λb o e=>gx b o (λz=>by rw [z]at e;rw [g1 _ _ e]at nx;cases nx) (g6 b o e);exact qE (.inl hz) H7 (SameX.of Z) (tb.same Z)
 have ak:Y4 out:=⟨fz,fl⟩;have Z:Same H H7:=λb o e=>gx b o (λz=>by rw [z]at e;rw [g1 _ _ e]at nx;cases nx) (g6 b o e);have ax:=tb.same Z;obtain⟨ca,al⟩:=ax.at;have am:=af.same Z;have a4:=U.same Z;refine⟨_,rfl,on,_,0,_,rfl,rfl,am.tu,rfl,_,rfl,ax,λL H8 x8 cb bn an g hs hc=>?_⟩;have kS:=KeepS.tb (K:=K) al x8;have ao:=am.keep kS;have a5:=a4.keep kS;obtain⟨c1,u1,e1,i1,v1⟩:=hc 0 "one" (.ref on) rfl rfl rfl;obtain⟨c2,u2,e2,i2,v2⟩:=hc 1 "other" (.ref G) rfl rfl rfl;have bo:ks1.length<=100:=by have:=av.wo.len;lia
 refine⟨ab,L,v,ks1,out,eL,_,mk,Ok,rfl,ao.wd,bo,bj.mono (KeepT.tb al x8),fl,by lia,bn,?_,aa.o0 ak,λp o hp ho=>?_,λqs bp r tu lw lm d bq bt ms H9 g9 bu bv Y bw a6 J bx m1 m2 m3=>?_,λbz H9 g9=>qE (.inr bz) H9 (λb u nb e=>g9 _ _ (x8 b u nb (Z _ _ e))) (an.same g9)⟩
 .obtain rfl:s.heap.objs.size+1=c1:=Option.some.inj e1;obtain rfl:s.heap.objs.size+1+1=c2:=Option.some.inj e2;have ap:=ClAt.two Te (Nat.ne_of_lt (Nat.lt_succ_self _)) i1 i2 v1 v2;refine Lb (k:=n+3) (x:=Str.ofString "pair") (N:=["one","other"]) (vs:=[.ref on,.ref G]) rfl rfl rfl M8 (λy hy=>NJ _ (PySem.mem_of_lookup hy) rfl) (1:) (1:) (λx hx=>?_) ap (11:) (λ_ _ _ _ _=>rfl) (λb7 f' c' A' b0 s' H' v' Q' E' b1 h'=>?_)
  .rcases NP _ (PySem.mem_of_lookup hx) rfl with z | z
   .have z':x=Str.ofString "one":=z;rw [z'];obtain⟨c0,u0,e0,_⟩:=ap.val 0 (Str.ofString "one") (.ref on) rfl rfl;exact⟨c0,e0⟩
   .have z':x=Str.ofString "other":=z;rw [z'];obtain⟨c0,u0,e0,_⟩:=ap.val 1 (Str.ofString "other") (.ref G) rfl rfl;exact⟨c0,e0⟩
  .obtain⟨pp,pr,rfl,_⟩:=h
   rfl
  .obtain⟨pp,pr,ev,gH,ay,b3,q',b4⟩:=h';obtain rfl:v'=.ref pp:=by injection ev
   obtain⟨i,mo,os,ei,az,aq,b5,m1,m2⟩:=aa.mo pr b3;refine⟨_,XR (EE:=λ_=>E') (RB g) b1 SG (Qa (pv 1) (Qa (pv 2) (Qa (pv 0) Qe))) (7:),?_⟩;rw [ei]at ay;exact⟨_,rfl,_,rfl,_,rfl,on,G,ab,ac,ag,ah,pp,ad,ae,ks1,ks2,t1,t2,ms1,ms2,ai,n2,i,pr.2,mo,os,rfl,SqT.of ay,ao.same gH,a5.same gH,aw,az,aq,b5,λhf=>q' _ (m1 hf),λhf=>b4 (m2 hf)⟩
 .obtain⟨i,mo,ei,az,aq,⟨b6,_⟩,_,hf⟩:=aa.got hp ho;exact⟨by rw [b6];exact aq,λu hu=>⟨(hf u hu).2,by have:=(hf u hu).1;lia⟩,aa.cl p o hp ho⟩
 .have gT:SameX T H H9:=λb u nb e=>g9 _ _ (x8 b u nb (Z _ _ e));have no:∀b,H8 b=none->H b=none:=λb hb=>by
   cases e:H b with
   | none=>rfl
   | some u=>
    by_cases a0:b=T
    .obtain⟨cc,h8⟩:=an.at;rw [a0,h8]at hb;cases hb
    .rw [x8 _ _ a0 (Z _ _ e)]at hb;cases hb
  exact⟨r,_,0,_,rfl,rfl,bu,rfl,q ak qs bp tu lw lm bq bt ms H9 gT (an.same g9) bv ⟨no _ Y.n0,Y.at0,λk hk=>⟨(Y.kd k hk).1,(Y.kd k hk).2.1,no _ (Y.kd k hk).2.2.1,(Y.kd k hk).2.2.2⟩⟩ bw a6 ⟨no _ J.n0,J.at0,λm hm=>⟨(J.mo m hm).1,(J.mo m hm).2.1,no _ (J.mo m hm).2.2.1,(J.mo m hm).2.2.2.1,(J.mo m hm).2.2.2.2⟩⟩ bx m1 m2 m3⟩
end
end K65
namespace L2
theorem ln1{α:Type}{us:List α}(h:us.length=1):∃a,us=[a]:=List.length_eq_one_iff.mp h
theorem ln2{α:Type}{us:List α}(h:us.length=2):∃a b,us=[a,b]:=by
 match us,h with
 | [a,b],_=>exact⟨a,b,rfl⟩
theorem ln3{α:Type}{us:List α}(h:us.length=3):∃a b c,us=[a,b,c]:=by
 match us,h with
 | [a,b,c],_=>exact⟨a,b,c,rfl⟩
theorem ln4{α:Type}{us:List α}(h:us.length=4):∃a b c d,us=[a,b,c,d]:=by
 match us,h with
 | [a,b,c,d],_=>exact⟨a,b,c,d,rfl⟩
theorem ln5{α:Type}{us:List α}(h:us.length=5):∃a b c d e,us=[a,b,c,d,e]:=by
 match us,h with
 | [a,b,c,d,e],_=>exact⟨a,b,c,d,e,rfl⟩
end L2
namespace L2
open PySem
structure MethAt(K:Fg)(C:Addr)(m qual:Str)(st:Stmt):Prop where
 ex:∃(f:Addr)(oc:Value)(od:Option Addr)(kV doc pm:Value)(an:Option Addr)(cdv ct:Value)(osl:Array (Option Value)),
  PySem.W.findIn K (.ref C) m=some (some (82:))/\PySem.W.isFn K (82:)=true/\K.lookup f=some ⟨oc,od,.func (PySem.W.fnOf m qual (defArgs st) (83:) (52:) .none kV doc pm an cdv ct),osl⟩/\PySem.W.codeIn K cdv qual=true/\PySem.W.keepIn K (82:)=true
theorem MethAt.mk'{K:Fg}{C:Addr}{m qual:Str}{st:Stmt}{f:Addr}{oc:Value}{od:Option Addr}{kV doc pm:Value}{an:Option Addr}{cdv ct:Value}{osl:Array (Option Value)}
 (a:PySem.W.findIn K (.ref C) m=some (some (82:))) (i:PySem.W.isFn K (82:)=true) (l:K.lookup f=some ⟨oc,od,.func (PySem.W.fnOf m qual (defArgs st) (83:) (52:) .none kV doc pm an cdv ct),osl⟩) (c:PySem.W.codeIn K cdv qual=true) (k:PySem.W.keepIn K (82:)=true):MethAt K C m qual st:=
 ⟨f,oc,od,kV,doc,pm,an,cdv,ct,osl,a,i,l,c,k⟩
theorem ln7{α:Type}{us:List α}(h:us.length=7):∃a b c d e f g,us=[a,b,c,d,e,f,g]:=by
 match us,h with
 | [a,b,c,d,e,f,g],_=>exact⟨a,b,c,d,e,f,g,rfl⟩
end L2
namespace K65
open PySem L2
structure DmK(K:Fg):Prop where
 ex:∃C:Addr,PySem.W.nsIn K mainGlobals "Demands"=some (some (.ref C))/\Cls K C/\NoAttr K C "turning"/\ NoAttr K C "kinds_below"/\ NoAttr K C "steps"/\ NoAttr K C "waiting"/\ NoAttr K C "fault"/\ PySem.W.makesIn K C=true/\PySem.W.keepIn K (.ref C)=true/\
  MethAt K C "__init__" "Demands.__init__" WL/\MethAt K C "look_by" "Demands.look_by" YY/\MethAt K C "look" "Demands.look" JZ/\MethAt K C "meet_demand" "Demands.meet_demand" sMD/\MethAt K C "meet_fault" "Demands.meet_fault" sMF
structure TbK(K:Fg):Prop where
 ex:∃C:Addr,PySem.W.nsIn K mainGlobals "TermBehind"=some (some (.ref C))/\Cls K C/\NoAttr K C "other"/\ NoAttr K C "left"/\ PySem.W.makesIn K C=true/\PySem.W.keepIn K (.ref C)=true/\
  MethAt K C "__init__" "TermBehind.__init__" sTI/\MethAt K C "by_mode" "TermBehind.by_mode" sBM/\MethAt K C "by_rule" "TermBehind.by_rule" sBR/\MethAt K C "take_one" "TermBehind.take_one" sTO
theorem DmK.mk'{K:Fg}{C:Addr}(aC:PySem.W.nsIn K mainGlobals "Demands"=some (some (.ref C)))(pg:PySem.W.plainGet K C Str.empty=true)(hd:PySem.W.hasDictIn K C=true)(po:PySem.W.plainOver K C=true)
 (sa:PySem.W.findIn K (.ref C) "__setattr__"=some (some (.builtin "object.__setattr__"))) (n1:PySem.W.findIn K (.ref C) "turning"=some none) (n2:PySem.W.findIn K (.ref C) "kinds_below"=some none) (n3:PySem.W.findIn K (.ref C) "steps"=some none) (n4:PySem.W.findIn K (.ref C) "waiting"=some none) (n5:PySem.W.findIn K (.ref C) "fault"=some none)
 (mk:PySem.W.makesIn K C=true) (kc:PySem.W.keepIn K (.ref C)=true) (m1:MethAt K C "__init__" "Demands.__init__" WL) (m2:MethAt K C "look_by" "Demands.look_by" YY) (m3:MethAt K C "look" "Demands.look" JZ) (m4:MethAt K C "meet_demand" "Demands.meet_demand" sMD) (m5:MethAt K C "meet_fault" "Demands.meet_fault" sMF):DmK K:=
 ⟨C,aC,⟨pg,hd,po,sa⟩,n1,n2,n3,n4,n5,mk,kc,m1,m2,m3,m4,m5⟩
theorem TbK.mk'{K:Fg}{C:Addr}(aC:PySem.W.nsIn K mainGlobals "TermBehind"=some (some (.ref C)))(pg:PySem.W.plainGet K C Str.empty=true)(hd:PySem.W.hasDictIn K C=true)(po:PySem.W.plainOver K C=true)
 (sa:PySem.W.findIn K (.ref C) "__setattr__"=some (some (.builtin "object.__setattr__"))) (n1:PySem.W.findIn K (.ref C) "other"=some none) (n2:PySem.W.findIn K (.ref C) "left"=some none)
 (mk:PySem.W.makesIn K C=true) (kc:PySem.W.keepIn K (.ref C)=true) (m1:MethAt K C "__init__" "TermBehind.__init__" sTI) (m2:MethAt K C "by_mode" "TermBehind.by_mode" sBM) (m3:MethAt K C "by_rule" "TermBehind.by_rule" sBR) (m4:MethAt K C "take_one" "TermBehind.take_one" sTO):TbK K:=
 ⟨C,aC,⟨pg,hd,po,sa⟩,n1,n2,mk,kc,m1,m2,m3,m4⟩
theorem DmK.m{P:Program}{w:World}{K:Fg}{mg:Str->Option Value}{base h:Heap}(S:DmK K)(X:K.In h)(N:h.Ns mainGlobals mg)(G:Gm mg)(RC:Fn P w K mg base 1 "is_call" ["term"] (ZF K))(RL:Fn P w K mg base 1 "levels_needed" ["fault"] (Gv K))(RA:Fn P w K mg base 1 "row_above" ["wood"] (UN K))(RO:Fn P w K mg base 1 "rows_of" ["wood","kind"] (Z5 K))(n:Nat):∃C,DmM P w K mg base C n:=by
 obtain⟨C,aC,cl,n1,n2,n3,n4,n5,mk,kc,m1,m2,m3,m4,m5⟩:=S.ex;have T:DmT K mg C:=⟨cl,n1,n2,n3,n4,n5,PySem.W.mg_of X N aC⟩;obtain⟨f1,ap,aq,ar,aa,as,au,ab,av,ac,L,i1,l1,c1,k1⟩:=m1.ex;obtain⟨f2,aw,ax,ay,ad,az,a0,ae,a6,af,a2,i2,l2,c2,k2⟩:=m2.ex;obtain⟨f3,a7,a8,a9,ag,ba,bb,ah,bc,ai,U,i3,l3,c3,k3⟩:=m3.ex;obtain⟨f4,bd,be,bf,aj,bg,bi,ak,bj,al,a4,i4,l4,c4,k4⟩:=m4.ex;obtain⟨f5,bn,bo,bp,am,bq,br,an,bt,ao,a5,i5,l5,c5,k5⟩:=m5.ex;have F1:=QD (st:=WL) l1 c1 k1;have F2:=QD (st:=YY) l2 c2 k2;have F3:=QD (st:=JZ) l3 c3 k3;have F4:=QD (st:=sMD) l4 c4 k4;have F5:=QD (st:=sMF) l5 c5 k5;have b1:Binds K _ ["self","turning","wood"] []:=F1.binds λ_ _ _ _ _ _ Y J=>by obtain⟨L,a2,U,rfl⟩:=ln3 J;rfl
 have b2:Binds K _ ["self","demand"] []:=F2.binds λ_ _ _ _ _ _ Y J=>by obtain⟨L,a2,rfl⟩:=ln2 J;rfl
 have Z:Binds K _ ["self","spot","place","term","kind"] []:=F3.binds λ_ _ _ _ _ _ Y J=>by obtain⟨L,a2,U,a4,a5,rfl⟩:=ln5 J;rfl
 have b4:Binds K _ ["self","demand","step"] []:=F4.binds λ_ _ _ _ _ _ Y J=>by obtain⟨L,a2,U,rfl⟩:=ln3 J;rfl
 have b5:Binds K _ ["self","fault"] []:=F5.binds λ_ _ _ _ _ _ Y J=>by obtain⟨L,a2,rfl⟩:=ln2 J;rfl
 have mL:Meth K C "look" f3:=⟨U,i3,k3⟩;have FL:=WS F3 G T RC ⟨a5,i5,k5⟩ (Sk F5 T RL) b5 ⟨a4,i4,k4⟩ (To F4 T) b4 mL Z n;have mB:Meth K C "look_by" f2:=⟨a2,i2,k2⟩;exact⟨C,T,⟨f1,_,⟨mk,L,i1,kc⟩,NL F1 G T RA mL FL Z mB (Tc F2 G T RO mL FL Z) b2,b1⟩⟩
theorem TbK.m{P:Program}{w:World}{K:Fg}{mg:Str->Option Value}{h:Heap}{N0:Addr}(S:TbK K)(X:K.In h)(N:h.Ns mainGlobals mg)(G:Gm mg)(RC:∀g:Heap,Fn P w K mg g 1 "is_call" ["term"] (ZF K))(RR:∀g:Heap,Fn P w K mg g 2 "rule_of" ["turning","mode","name"] (QV K))(RT:Rs K mg "TooGreat" N0){t30 t200:Tok}(h30:mg "MOST_LEVELS"=some (.int 30 t30))(h200:mg "MOST_SIZE"=some (.int 200 t200))(n:Nat):∃C,∀g:Heap,TbM P w K mg g C N0 n:=by
 obtain⟨C,aC,cl,n1,n2,mk,kc,m1,m2,m3,m4⟩:=S.ex;have T:TbT K mg C:=⟨cl,n1,n2,PySem.W.mg_of X N aC⟩;obtain⟨f1,am,an,ao,aa,ap,aq,ab,ar,ac,L,i1,l1,c1,k1⟩:=m1.ex;obtain⟨f2,as,au,av,ad,aw,ax,ae,ay,af,a2,i2,l2,c2,k2⟩:=m2.ex;obtain⟨f3,az,a0,a5,ag,a6,a7,ah,a8,ai,U,i3,l3,c3,k3⟩:=m3.ex;obtain⟨f4,a9,ba,bb,aj,bc,bd,ak,be,al,Y,i4,l4,c4,k4⟩:=m4.ex;have F1:=QD (st:=sTI) l1 c1 k1;have F2:=QD (st:=sBM) l2 c2 k2;have F3:=QD (st:=sBR) l3 c3 k3;have F4:=QD (st:=sTO) l4 c4 k4;have b1:Binds K _ ["self","other"] []:=F1.binds λ_ _ _ _ _ _ Z J=>by obtain⟨L,a2,rfl⟩:=ln2 J;rfl
 have b2:Binds K _ ["self","mode","term","room"] []:=F2.binds λ_ _ _ _ _ _ Z J=>by obtain⟨L,a2,U,Y,rfl⟩:=ln4 J;rfl
 have b3:Binds K _ ["self","rule","read","room"] []:=F3.binds λ_ _ _ _ _ _ Z J=>by obtain⟨L,a2,U,Y,rfl⟩:=ln4 J;rfl
 have b4:Binds K _ ["self","room"] []:=F4.binds λ_ _ _ _ _ _ Z J=>by obtain⟨L,a2,rfl⟩:=ln2 J;rfl
 refine⟨C,λg=>?_⟩;have all:=Pq (base:=g) F2 F3 G T (RC g) (RR g) ⟨f4,_,⟨Y,i4,k4⟩,ST F4 T RT h30 h200,b4⟩ ⟨a2,i2,k2⟩ b2 ⟨U,i3,k3⟩ b3 n;exact⟨T,⟨f1,_,⟨mk,L,i1,kc⟩,SL F1 T h200,b1⟩,all.1,all.2⟩
end K65
namespace G3
open PySem L2
inductive C where
 | v (i:Nat) | k (x:V) | bin (op:Operator) (a b:C) | cmp (op:CmpOp) (a b:C) | ix (a b:C)
 | tup (as:List C) | lst (as:List C) | call (i:Nat) (as:List C)
 | meth (i:Nat) (o:C) (as:List C) | no (a:C) | an (a b:C) | oo (a b:C)
 | nd (i:Nat) (as:List C) | iff (c a b:C)
 | comp (kd:Nat) (it:C) (cap:List Nat) (elt:C) | compI (kd:Nat) (it:C) (cap:List Nat) (cnd elt:C)
abbrev Rel:=St->List V->Hp->VK->Prop
structure Mr where
 ty:V->Hp->Prop
 r:V->List V->Hp->VK->Prop
structure En where
 K:Fg
 fs:List Rel
 ms:List Mr
 nr:List (48:)
 sr:List (St->List V->Hp->(St->Hp->Prop)->Prop)
def TZ(a:Option V)(k:V->Prop):Prop:=match a with
 | none=>False
 | some x=>k x
def Re:St->Nat->(V->Prop)->Prop
 | [],_,_=>False
 | a::_,0,k=>TZ a k
 | _::r,n+1,k=>Re r n k
def setS:St->Nat->V->(St->Prop)->Prop
 | [],_,_,_=>False
 | _::r,0,x,k=>k (some x::r)
 | a::r,n+1,x,k=>setS r n x λr'=>k (a::r')
def GS:List V->Nat->Bool
 | [],_=>true
 | _::_,0=>false
 | _::r,n+1=>GS r n
structure Cnd(p q:Prop):Prop where
 c::(h:p) (k:q)
structure NewT(K:Fg)(xs:List V)(H:Hp)(Q:VK):Prop where
 t::(h:∀p H',Same H H'->SqT K H' p xs->H' p=some (.tup xs)->Q (.ref p) H')
structure NewL(xs:List V)(H:Hp)(Q:VK):Prop where
 l::(h:∀p H',Same H H'->H' p=some (.lst xs)->H p=none->Q (.ref p) H')
inductive Ix(K:Fg)(a:Addr)(i:Int)(H:Hp)(Q:VK):Prop where
 | t (xs:List V) (v:V) (h:SqT K H a xs) (e:atI xs i=some v) (k:Q v H):Ix K a i H Q
 | l (xs:List V) (v:V) (h:SqL K H a xs) (e:atI xs i=some v) (k:Q v H):Ix K a i H Q
inductive Cat(K:Fg)(a b:Addr)(H:Hp)(Q:VK):Prop where
 | a (xs ys:List V) (h1:SqT K H a xs) (h2:SqT K H b ys) (hz:xs.length+ys.length<=sizeLine) (k:∀p H',Same H H'->SqT K H' p (xs++ys)->Q (.ref p) H'):Cat K a b H Q
def NX(i j:Int)(H:Hp)(Q:VK):Prop:=match j with
 | .ofNat (_+1)=>Q (.int (i%j)) H
 | _=>False
def PR(i j:Int)(H:Hp)(Q:VK):Prop:=match j with
 | .ofNat (n+1)=>cond (Nat.ble (n+2) 1073741824) (Q (.int (i/j)) H) False
 | _=>False
def i2(x y:V)(ki:Int->Int->Prop)(ks:Str->Str->Prop):Prop:=match x with
 | .int i=>match y with
  | .int j=>ki i j
  | _=>False
 | .str i=>match y with
  | .str j=>ks i j
  | _=>False
 | _=>False
def a2(x y:V)(k:Addr->Addr->Prop):Prop:=match x with
 | .ref a=>match y with
  | .ref b=>k a b
  | _=>False
 | _=>False
def Tv:V->Bool
 | .ref _=>true
 | _=>false
def rB(K:Fg)(op:Operator)(x y:V)(H:Hp)(Q:VK):Prop:=match op with
 | .Add=>cond (Tv x) (a2 x y λa b=>Cat K a b H Q) (i2 x y (λi j=>Q (.int (i+j)) H) λ_ _=>False)
 | .Sub=>i2 x y (λi j=>Q (.int (i-j)) H) λ_ _=>False
 | .Mult=>i2 x y (λi j=>Cnd (CMul i j) (Q (.int (i*j)) H)) λ_ _=>False
 | .Mod=>i2 x y (λi j=>NX i j H Q) λ_ _=>False
 | .FloorDiv=>i2 x y (λi j=>PR i j H Q) λ_ _=>False
 | _=>False
def MG:V->Bool
 | .non=>true
 | _=>false
def iN(y:V)(k:Prop):Prop:=cond (MG y) k False
def rC(op:CmpOp)(x y:V)(H:Hp)(Q:VK):Prop:=match op with
 | .Eq=>i2 x y (λi j=>Q (.bl (decide (i=j))) H) λi j=>Q (.bl (decide (i=j))) H
 | .NotEq=>i2 x y (λi j=>Q (.bl (!decide (i=j))) H) λi j=>Q (.bl (!decide (i=j))) H
 | .Lt=>i2 x y (λi j=>Q (.bl (decide (i<j))) H) λi j=>Q (.bl (decide (i.cps.toList<j.cps.toList))) H
 | .LtE=>i2 x y (λi j=>Q (.bl (decide (i<=j))) H) λ_ _=>False
 | .Gt=>i2 x y (λi j=>Q (.bl (decide (j<i))) H) λ_ _=>False
 | .GtE=>i2 x y (λi j=>Q (.bl (decide (j<=i))) H) λ_ _=>False
 | .Is=>iN y (Q (.bl (MG x)) H)
 | .IsNot=>iN y (Q (.bl (!MG x)) H)
 | _=>False
def rX(K:Fg)(x y:V)(H:Hp)(Q:VK):Prop:=match x,y with
 | .ref a,.int i=>Ix K a i H Q
 | _,_=>False
def asB(x:V)(H:Hp)(Q:Bool->Hp->Prop):Prop:=match x with
 | .bl b=>Q b H
 | _=>False
def SK(j:Int):Prop:=-(2^62)<=j/\j<2^62
inductive Cmp(K:Fg)(it:Hp->Prop)(itm:Nat->V)(m:Nat)(cs:St)(tt:TT)(te:TE)(H:Hp)(Q:VK):Prop where
 | s (R:Nat->List V->Hp->Prop) (h0:∀H1,Same H H1->R 0 [] H1)
  (hm:∀acc i ys l H1 H2,R i ys H1->H1 acc=some (.lst l)->H acc=none->(∀a o,a≠acc->H1 a=some o->H2 a=some o)->(∀a xs,SqT K H1 a xs->SqT K H2 a xs)->R i ys H2) (hz:m<=4000)
  (hs:∀i ys H1,i<m->ys.length<=i->Same H H1->R i ys H1->tt (some (itm i)::cs) H1 λb H2=>cond b (te (some (itm i)::cs) H2 λy H3=>Same H1 H3/\R (i+1) (ys++[y]) H3) (Same H1 H2/\R (i+1) ys H2))
  (hd:∀p ys H1,Same H H1->H1 p=some (.lst ys)->R m ys H1->Q (.ref p) H1):Cmp K it itm m cs tt te H Q
 | m (R:Addr->Nat->List V->Hp->Prop) (hz:m<=4000) (h0:∀acc H1,H acc=none->Same H H1->H1 acc=some (.lst [])->R acc 0 [] H1) (hx:∀acc i ys H1,R acc i ys H1->it H1)
  (hs:∀acc i ys H1,i<m->ys.length<=i->H acc=none->R acc i ys H1->tt (some (itm i)::cs) H1 λb H2=>cond b (te (some (itm i)::cs) H2 λy H3=>H3 acc=some (.lst ys)/\R acc (i+1) (ys++[y]) (upd H3 acc (.lst (ys++[y])))) (R acc (i+1) ys H2))
  (hd:∀acc ys H1,H acc=none->R acc m ys H1->Q (.ref acc) H1):Cmp K it itm m cs tt te H Q
inductive CmpL(K:Fg)(a:Addr)(cs:St)(tt:TT)(te:TE)(H:Hp)(Q:VK):Prop where
 | l (xs:List V) (h:SqL K H a xs) (k:Cmp K (λH=>SqL K H a xs) (λi=>(xs[i]?).getD .non) xs.length cs tt te H Q):CmpL K a cs tt te H Q
inductive CmpT(K:Fg)(a:Addr)(cs:St)(tt:TT)(te:TE)(H:Hp)(Q:VK):Prop where
 | t (xs:List V) (h:SqT K H a xs) (k:Cmp K (λH=>SqT K H a xs) (λi=>(xs[i]?).getD .non) xs.length cs tt te H Q):CmpT K a cs tt te H Q
def Nw(K:Fg)(kd:Nat)(x:V)(cs:St)(tt:TT)(te:TE)(H:Hp)(Q:VK):Prop:=match kd,x with
 | 0,.int j=>Cnd (SK j) (Cmp K (λ_=>True) (λi=>.int (i:Int)) j.toNat cs tt te H Q)
 | 1,.ref a=>CmpL K a cs tt te H Q
 | 2,.ref a=>CmpT K a cs tt te H Q
 | _,_=>False
def Wx:List Nat->St->St
 | [],_=>[]
 | j::r,σ=>(σ[j]?).getD none::Wx r σ
mutual
noncomputable def E(n:En):C->TE
 | .v i=>λσ H Q=>Re σ i λx=>Q x H
 | .k x=>λ_ H Q=>Q x H
 | .bin op a b=>λσ H Q=>E n a σ H λx H1=>E n b σ H1 λy H2=>rB n.K op x y H2 Q
 | .cmp op a b=>λσ H Q=>E n a σ H λx H1=>E n b σ H1 λy H2=>rC op x y H2 Q
 | .ix a b=>λσ H Q=>E n a σ H λx H1=>E n b σ H1 λy H2=>rX n.K x y H2 Q
 | .tup as=>λσ H Q=>Es n as σ H λxs H1=>cond (GS xs 1000) (NewT n.K xs H1 Q) False
 | .lst as=>λσ H Q=>Es n as σ H λxs H1=>cond (GS xs 1000) (NewL xs H1 Q) False
 | .call i as=>λσ H Q=>Es n as σ H λxs H1=>match n.fs[i]? with | some r=>r σ xs H1 Q | none=>False
 | .no a=>λσ H Q=>E n a σ H λx H1=>asB x H1 λb H2=>Q (.bl (!b)) H2
 | .an a b=>λσ H Q=>E n a σ H λx H1=>asB x H1 λc H2=>cond c (E n b σ H2 Q) (Q (.bl false) H2)
 | .oo a b=>λσ H Q=>E n a σ H λx H1=>asB x H1 λc H2=>cond c (Q (.bl true) H2) (E n b σ H2 Q)
 | .meth i o as=>λσ H Q=>E n o σ H λx H1=>match n.ms[i]? with | some m=>Cnd (m.ty x H1) (Es n as σ H1 λxs H2=>m.r x xs H2 Q) | none=>False
 | .nd i as=>λσ H Q=>Es n as σ H λxs H1=>match n.nr[i]? with | some r=>r xs H1 Q | none=>False
 | .iff c a b=>λσ H Q=>E n c σ H λx H1=>asB x H1 λt H2=>cond t (E n a σ H2 Q) (E n b σ H2 Q)
 | .comp kd it cap elt=>λσ H Q=>E n it σ H λx H1=>Nw n.K kd x (Wx cap σ) (λ_ H Q=>Q true H) (E n elt) H1 Q
 | .compI kd it cap cnd elt=>λσ H Q=>E n it σ H λx H1=>Nw n.K kd x (Wx cap σ) (λσ H Q=>E n cnd σ H λx H1=>asB x H1 Q) (E n elt) H1 Q
termination_by structural c=>c
noncomputable def Es(n:En):List C->TA
 | []=>λ_ H Q=>Q [] H
 | a::r=>λσ H Q=>E n a σ H λx H1=>Es n r σ H1 λxs H2=>Q (x::xs) H2
termination_by structural c=>c
end
theorem iteI{p:Prop} [Decidable p] {A B:Prop} (h1:p->A) (h2:¬p->B):cond (decide p) A B:=by
 by_cases h:p
 .rw [decide_eq_true h];exact h1 h
 .rw [decide_eq_false h];exact h2 h
theorem modI{i j:Int}{H:Hp}{Q:VK}(h:0<j)(k:Q (.int (i%j)) H):NX i j H Q:=by
 match j,h,k with
 | .ofNat (n+1),_,k=>exact k
 | .ofNat 0,h,_=>exact absurd h (18:)
 | .negSucc n,h,_=>exact absurd h (21:)
end G3
namespace G3
open PySem L2
theorem MN{i j:Int}{H:Hp}{Q:VK}(h:NX i j H Q):0<j/\Q (.int (i%j)) H:=by
 unfold NX at h;split at h
 .exact⟨by simp,h⟩
 .exact h.elim
theorem LL{i j:Int}{H:Hp}{Q:VK}(h:PR i j H Q):S1 i j/\Q (.int (i/j)) H:=by
 unfold PR at h;split at h
 .rename_i n;cases G:Nat.ble (n+2) 1073741824 with
  | false=>rw [G]at h;exact h.elim
  | true=>
   rw [G]at h;have:=Nat.ble_eq.mp G;refine⟨⟨by simp,?_⟩,h⟩;show((n+1:Nat):Int)<_;lia
 .exact h.elim
theorem i2_of{x y:V}{ki:Int->Int->Prop}{ks:Str->Str->Prop}(h:i2 x y ki ks):(∃i j,x=.int i/\y=.int j/\ki i j)\/∃i j,x=.str i/\y=.str j/\ks i j:=by
 cases x with
 | int i=>cases y with
  | int j=>exact .inl ⟨i,j,rfl,rfl,h⟩
  | _=>exact False.elim h
 | str i=>cases y with
  | str j=>exact .inr ⟨i,j,rfl,rfl,h⟩
  | _=>exact False.elim h
 | _=>exact False.elim h
theorem Ju{x y:V}{ki:Int->Int->Prop}(h:i2 x y ki λ_ _=>False):∃i j,x=.int i/\y=.int j/\ki i j:=by
 rcases i2_of h with h | ⟨_,_,_,_,h⟩
 .exact h
 .exact h.elim
theorem Ph{y:V}{k:Prop}(h:iN y k):y=.non/\k:=by
 cases y with
 | non=>exact⟨rfl,h⟩
 | _=>exact False.elim h
theorem dI{i j:Int}:decide (V.int i=V.int j)=decide (i=j):=by simp
theorem dS{i j:Str}:decide (V.str i=V.str j)=decide (i=j):=by simp
section
variable{X:Cx}
theorem Aw(op:Operator):OpR X (binaryOp op) (rB X.K op):=by
 intro pins s σ H x y v u Q I G J h;cases op with
 | Add=>
  cases x with
  | ref a=>cases y with
   | ref b=>
    obtain⟨xs,ys,h1,h2,L,k⟩:=(show Cat X.K a b H Q from h);exact Gz pins s σ H _ _ v u Q I G J ⟨_,_,xs,ys,rfl,rfl,h1,h2,L,k⟩
   | _=>exact False.elim h
  | int i=>cases y with
   | int j=>exact Za pins s σ H _ _ v u Q I G J ⟨_,_,rfl,rfl,h⟩
   | _=>exact False.elim h
  | str i=>cases y<;>exact False.elim h
  | _=>exact False.elim h
 | Sub=>
  obtain⟨i,j,rfl,rfl,h⟩:=Ju h;exact W3 pins s σ H _ _ v u Q I G J ⟨_,_,rfl,rfl,h⟩
 | Mult=>
  obtain⟨i,j,rfl,rfl,h⟩:=Ju h;exact Yx pins s σ H _ _ v u Q I G J ⟨_,_,rfl,rfl,h.h,h.k⟩
 | Mod=>
  obtain⟨i,j,rfl,rfl,h⟩:=Ju h;exact ZC pins s σ H _ _ v u Q I G J ⟨_,_,rfl,rfl,(MN h).1,(MN h).2⟩
 | FloorDiv=>
  obtain⟨i,j,rfl,rfl,h⟩:=Ju h;exact XD pins s σ H _ _ v u Q I G J ⟨_,_,rfl,rfl,(LL h).1,(LL h).2⟩
 | _=>exact False.elim h
theorem TH(op:CmpOp):OpR X (compareOp op) (rC op):=by
 intro pins s σ H x y v u Q I G J h;cases op with
 | Eq=>
  rcases i2_of h with⟨i,j,rfl,rfl,h⟩ | ⟨i,j,rfl,rfl,h⟩
  .exact Yo pins s σ H _ _ v u Q I G J ⟨rfl,by rw [dI];exact h⟩
  .exact Yo pins s σ H _ _ v u Q I G J ⟨rfl,by rw [dS];exact h⟩
 | NotEq=>
  rcases i2_of h with⟨i,j,rfl,rfl,h⟩ | ⟨i,j,rfl,rfl,h⟩
  .exact WP pins s σ H _ _ v u Q I G J ⟨rfl,by rw [dI];exact h⟩
  .exact WP pins s σ H _ _ v u Q I G J ⟨rfl,by rw [dS];exact h⟩
 | Lt=>
  rcases i2_of h with⟨i,j,rfl,rfl,h⟩ | ⟨i,j,rfl,rfl,h⟩
  .exact WM pins s σ H _ _ v u Q I G J ⟨_,_,rfl,rfl,h⟩
  .exact GH pins s σ H _ _ v u Q I G J ⟨_,_,rfl,rfl,h⟩
 | LtE=>
  obtain⟨i,j,rfl,rfl,h⟩:=Ju h;exact SC pins s σ H _ _ v u Q I G J ⟨_,_,rfl,rfl,h⟩
 | Gt=>
  obtain⟨i,j,rfl,rfl,h⟩:=Ju h;exact NC pins s σ H _ _ v u Q I G J ⟨_,_,rfl,rfl,h⟩
 | GtE=>
  obtain⟨i,j,rfl,rfl,h⟩:=Ju h;exact Tx pins s σ H _ _ v u Q I G J ⟨_,_,rfl,rfl,h⟩
 | Is=>
  obtain⟨rfl,h⟩:=Ph h;refine RV pins s σ H _ _ v u Q I G J ⟨rfl,?_⟩;cases x<;>exact h
 | IsNot=>
  obtain⟨rfl,h⟩:=Ph h;refine Gf pins s σ H _ _ v u Q I G J ⟨rfl,?_⟩;cases x<;>exact h
 | _=>exact False.elim h
theorem AD:IxR X (rX X.K):=by
 intro value G pins s σ H x y v u Q I U Y h Z;unfold rX at h;split at h
 .cases h with
  | t xs w J L k=>exact Qj value G pins s σ H _ _ v u Q I U Y ⟨_,xs,_,w,rfl,rfl,J,L,k⟩ Z
  | l xs w J L k=>exact QP value G pins s σ H _ _ v u Q I U Y ⟨_,xs,_,w,rfl,rfl,J,L,k⟩ Z
 .exact h.elim
def ord:Expr->Bool
 | .Starred _ _=>false
 | .Slice _ _ _ _=>false
 | .Set _ _ _=>false
 | _=>true
def osw:Expr->Bool
 | .ListComp _ _ _ _=>false
 | .SetComp _ _ _ _=>false
 | .DictComp _ _ _ _ _=>false
 | _=>true
def tst:Expr->Bool
 | .UnaryOp .Not _ _=>false
 | .BoolOp _ _ _=>false
 | .IfExp _ _ _ _=>false
 | .Compare _ _ _ _=>false
 | _=>true
theorem Zd{e:Expr}{es:List Expr}{env:Env}(h:ord e=true):starEach (e::es) env=(false,eval e env)::starEach es env:=by
 cases e<;>first | rfl | exact absurd (show false=true from h) Bool.false_ne_true
theorem WA{e:Expr}{t:Option Expr}{l:Nat}{env:Env}(h:osw e=true):swapsWith e t l env=pure false:=by
 cases e<;>first | rfl | exact absurd (show false=true from h) Bool.false_ne_true
theorem LG{e:Expr}(h:ord e=true):Ga e:=by
 cases e<;>first | exact λ_ _=>rfl | exact absurd (show false=true from h) Bool.false_ne_true
theorem Z4{e:Expr}{env:Env}(h:ord e=true)(x:Value):foldedSetIterable e env x=pure x:=by
 cases e<;>first | rfl | exact absurd (show false=true from h) Bool.false_ne_true
theorem GG{e:Expr}{env:Env}(h:tst e=true)(wh:Sem Value):isTrue e env wh=(do let v <-wh;standAt e.pos;holding [v] (truthy v)):=by
 cases e<;>first | rfl | exact absurd (show false=true from h) Bool.false_ne_true | (rename_i G _ _;cases G<;>first | rfl | exact absurd (show false=true from h) Bool.false_ne_true)
theorem Y7{es:List Expr}{pos:Pos}{env:Env}(h:es.all ord=true):(backTo pos (starEach es env)).any (·.1)=false:=by
 induction es with
 | nil=>rfl
 | cons e es G=>
  rw [List.all_cons,Bool.and_eq_true]at h;rw [Zd h.1];show(false||(backTo pos (starEach es env)).any (·.1))=false;rw [G h.2];rfl
structure CallOk(X:Cx)(x:Str)(r:Rel):Prop where
 ok:∀(p pos:Pos)(e:Expr)(es:List Expr)(t:TA),PA X (e::es) t->Gl X x->(22:)=false->starEach (e::es) X.env=(46:)::starEach es X.env->(39:).any (·.1)=false->PE X (50:) (λσ H Q=>t σ H λvs H1=>r σ vs H1 Q)
theorem CallOk.fn{k k':Nat}{x:Str}{ps:List Str}{sp:Sp}(F:Fn X.prog X.w X.K X.mg X.base k x ps sp)(hr:Room k' X.A)(hk:k<=k':=by decide):CallOk X x (λ_ vs H Q=>sp vs H Q E0):=
 ⟨λp pos e es t G J L U hp=>by
  have:=QF (p:=p) (pos:=pos) F hr G hk J L U hp;intro pins s σ H Q I h;exact this pins s σ H Q I (by
   show t σ H λvs H1=>sp (vs++[]) H1 Q E0
   simpa only [List.append_nil]using h)⟩
structure MethOk(X:Cx)(m:Str)(q:Mr):Prop where
 ok:∀(o e:Expr)(es:List Expr)(to:TE)(t:TA)(ap cp:Pos),PE X o to->PA X (e::es) t->attributeBase o m X.env (eval o X.env)=eval o X.env->((e::es).all ord)=true->(e::es).length<20->(ap.endLine==cp.line)=true->PE X (.Call (.Attribute o m ap) (e::es) [] cp) (λσ H Q=>to σ H λx H1=>q.ty x H1/\t σ H1 λvs H2=>q.r x vs H2 Q)
theorem Pu{es:List Expr}{cp:Pos}{env:Env}(h:es.all ord=true)(hl:es.length<20):((backTo cp (starEach es env)).all (λx=>!x.1)&&(backToKw cp (keywordEach [] env)).all (λx=>x.1.isSome)
 &&decide (es.length+([]:List Keyword).length+(61:)<30))=true:=by
 have h1:(backTo cp (starEach es env)).all (λx=>!x.1)=true:=by
  have:=Y7 (pos:=cp) (env:=env) h;exact List.all_eq_true.mpr λx G=>by
   have:=List.any_eq_false.mp this x G
   simpa using this
 rw [h1];have h2:decide (es.length+([]:List Keyword).length+(61:)<30)=true:=by simp;lia
 rw [h2];rfl
theorem MethOk.bm{T id:String}{name:Str}{r:V->List V->Hp->VK->Prop}(pa:PlainAttrs T)(slot:Slot T name id)(hty:typeOf (.builtin id)=pure (.type "method_descriptor"))(hm:MtR X id r):MethOk X name ⟨tyV X.K T,r⟩:=
 ⟨λo e es to t Z cp J L U h Y G=>by
  rw [List.all_cons,Bool.and_eq_true]at h;exact U1 pa slot hty hm J L U (Pu (by rw [List.all_cons,Bool.and_eq_true];exact h) Y) G (Zd h.1) (Y7 h.2)⟩
inductive PEs(X:Cx):List Expr->List TE->Prop where
 | nil:PEs X [] []
 | cons {e:Expr} {es:List Expr} {t:TE} {ts:List TE}:PE X e t->PEs X es ts->PEs X (e::es) (t::ts)
def Vx:List TE->TA
 | []=>λ_ H Q=>Q [] H
 | t::r=>λσ H Q=>t σ H λx H1=>Vx r σ H1 λxs H2=>Q (x::xs) H2
structure NodeOk(X:Cx)(sh:Expr->Option (List Expr))(r:List V->Hp->VK->Prop):Prop where
 ok:∀(e:Expr)(es:List Expr)(ts:List TE),sh e=some es->PEs X es ts->PE X e (λσ H Q=>Vx ts σ H λvs H1=>r vs H1 Q)
 okT:∀(e:Expr)(es:List Expr)(ts:List TE),sh e=some es->PEs X es ts->PT X e (λσ H Q=>Vx ts σ H λvs H1=>r vs H1 λx H2=>asB x H2 Q)
end
end G3
namespace G3
open PySem L2
def up(t:TE):TE:=λσ H Q=>∃Q0:VK,t σ H Q0/\∀x H',Q0 x H'->Q x H'
def upA(t:TA):TA:=λσ H Q=>∃Q0:List V->Hp->Prop,t σ H Q0/\∀x H',Q0 x H'->Q x H'
def upT(t:TT):TT:=λσ H Q=>∃Q0:Bool->Hp->Prop,t σ H Q0/\∀x H',Q0 x H'->Q x H'
def upR(r:R2):R2:=λx y H Q=>∃Q0:VK,r x y H Q0/\∀x H',Q0 x H'->Q x H'
theorem QO{X:Cx}{e:Expr}{t:TE}(h:PE X e t):PE X e (up t):=λpins s σ H Q I ⟨G,J,k⟩=>thn (h pins s σ H G I J) λv Z ⟨x,H1,L,U,Y⟩=>⟨x,H1,L,U,k _ _ Y⟩
theorem Pd{X:Cx}{es:List Expr}{t:TA}(h:PA X es t):PA X es (upA t):=λpos pins s σ H Q I ⟨G,J,k⟩=>thn (h pos pins s σ H G I J) λv Z ⟨x,H1,L,U,Y⟩=>⟨x,H1,L,U,k _ _ Y⟩
theorem WC{X:Cx}{e:Expr}{t:TT}(h:PT X e t):PT X e (upT t):=λpins s σ H Q I ⟨G,J,k⟩=>thn (h pins s σ H G I J) λv Y ⟨H1,L,U⟩=>⟨H1,L,k _ _ U⟩
theorem Mi{X:Cx}{f:Value->Value->Sem Value}{r:R2}(h:OpR X f r):OpR X f (upR r):=λpins s σ H x y v u Q I G J ⟨L,U,k⟩=>thn (h pins s σ H x y v u L I G J U) λv s1 ⟨x,H1,Y,Z,q1⟩=>⟨x,H1,Y,Z,k _ _ q1⟩
theorem O8{X:Cx}{es:List Expr}{t:TT}(h:PF X es t):PF X es (upT t):=λpins s σ H Q I ⟨G,J,k⟩=>thn (h pins s σ H G I J) λv Y ⟨H1,L,U⟩=>⟨H1,L,k _ _ U⟩
theorem QW{X:Cx}{e:Expr}{t u:TE}(h:PE X e t)(k:∀σ H Q,u σ H Q->t σ H Q):PE X e u:=λpins s σ H Q I q=>h pins s σ H Q I (k σ H Q q)
theorem Yi{X:Cx}{e:Expr}{t u:TT}(h:PT X e t)(k:∀σ H Q,u σ H Q->t σ H Q):PT X e u:=λpins s σ H Q I q=>h pins s σ H Q I (k σ H Q q)
section
variable{K:Fg}{m:Nat}{cs:St}{tt:TT}{te:TE}{H:Hp}{Q:VK}{acc:Addr}{itm:Nat->V}
theorem U0{R:Nat->List V->Hp->Prop}{i n:Nat}{ys:List V}{H1:Hp}{x:V}(hn:i<n)(hz:n<=4000)(ha:H acc=none)(hm:∀acc i ys l H1 H2,R i ys H1->H1 acc=some (.lst l)->H acc=none->(∀a o,a≠acc->H1 a=some o->H2 a=some o)->(∀a xs,SqT K H1 a xs->SqT K H2 a xs)->R i ys H2)
 (hy:H1 acc=some (.lst ys)) (hl:ys.length<=i) (g:Same H H1) (q:tt (some x::cs) H1 λb H2=>cond b (te (some x::cs) H2 λy H3=>Same H1 H3/\R (i+1) (ys++[y]) H3) (Same H1 H2/\R (i+1) ys H2)):
 upT tt (some x::cs) H1 (Lo n (53:) acc i (up te) (some x::cs)):=by
 refine⟨_,q,λb H2 q=>?_⟩;cases b with
 | true=>
  refine Zk ⟨_,q,λy H3 q=>?_⟩;have G:=q.1 _ _ hy;refine QB (ys:=ys) hn G (6:) ⟨Qb,λz u e=>?_,hm acc _ _ ys H3 _ q.2 G ha (λa o J e=>by rw [Qg J];exact e) (λa xs h=>SqT.put h G),by rw [List.length_append];show ys.length+1<=_;lia⟩;rw [Qg (Qd e ha)];exact q.1 _ _ (g _ _ e)
 | false=>exact Zn (J3 hn ⟨q.1 _ _ hy,g.trans q.1,q.2,by lia⟩)
theorem Y5{R:Addr->Nat->List V->Hp->Prop}{i n:Nat}{ys:List V}{H1:Hp}{x:V}(hn:i<n)(hz:n<=4000)(hl:ys.length<=i)(q:tt (some x::cs) H1 λb H2=>cond b (te (some x::cs) H2 λy H3=>H3 acc=some (.lst ys)/\R acc (i+1) (ys++[y]) (upd H3 acc (.lst (ys++[y])))) (R acc (i+1) ys H2)):
 upT tt (some x::cs) H1 (Lo n (λi ys H'=>R acc i ys H'/\ys.length<=i) acc i (up te) (some x::cs)):=by
 refine⟨_,q,λb H2 q=>?_⟩;cases b with
 | true=>exact Zk ⟨_,q,λy H3 q=>QB (ys:=ys) hn q.1 (6:) ⟨q.2,by rw [List.length_append];show ys.length+1<=_;lia⟩⟩
 | false=>exact Zn (J3 hn ⟨q,by lia⟩)
theorem GW(h:Cmp K (λ_=>True) (λi=>.int (i:Int)) m cs tt te H Q)(ha:H acc=none):Uz (Itr 0 m) 1 cs (Q3 0) (upT tt) (up te) H acc (λH'=>Q (.ref acc) H'):=by
 cases h with
 | s R G Y J L U=>
  refine YS (53:) ⟨Qb,Qc ha _,G _ (Qc ha _),Nat.zero_le _⟩ (λi ys H1 hi p=>?_) λys H1 p=>U acc ys H1 p.2.1 p.1 p.2.2.1;rw [Int.zero_add];exact U0 hi J ha Y p.1 p.2.2.2 p.2.1 (L i ys H1 hi p.2.2.2 p.2.1 p.2.2.1)
 | m R J G Z L U=>
  refine YS (λi ys H'=>R acc i ys H'/\ys.length<=i) ⟨G acc _ ha (Qc ha _) Qb,Nat.zero_le _⟩ (λi ys H1 hi p=>?_) λys H1 p=>U acc ys H1 ha p.1;rw [Int.zero_add];exact Y5 hi J p.2 (L acc i ys H1 hi p.2 ha p.1)
theorem LB{a:Addr}{xs:List V}(hx:SqL K H a xs)(h:Cmp K (λH=>SqL K H a xs) (λi=>(xs[i]?).getD .non) xs.length cs tt te H Q)(ha:H acc=none):Uz (Itl K a) 1 cs (Q3 0) (upT tt) (up te) H acc (λH'=>Q (.ref acc) H'):=by
 cases h with
 | s R G Z J L U=>
  refine Yl (xs:=xs) (53:) ⟨Qb,Qc ha _,G _ (Qc ha _),Nat.zero_le _⟩ (λi ys H1 _ p=>p.2.1.seq hx) (λi x ys H1 hi e p=>?_) λys H1 p=>U acc ys H1 p.2.1 p.1 p.2.2.1;have q:=L i ys H1 hi p.2.2.2 p.2.1 p.2.2.1;rw [e]at q;exact U0 hi J ha Z p.1 p.2.2.2 p.2.1 q
 | m R J G Y L U=>
  refine Yl (xs:=xs) (λi ys H'=>R acc i ys H'/\ys.length<=i) ⟨G acc _ ha (Qc ha _) Qb,Nat.zero_le _⟩ (λi ys H1 _ p=>Y acc i ys H1 p.1) (λi x ys H1 hi e p=>?_) λys H1 p=>U acc ys H1 ha p.1;have q:=L acc i ys H1 hi p.2 ha p.1;rw [e]at q;exact Y5 hi J p.2 q
theorem Oe{a:Addr}{xs:List V}(hx:SqT K H a xs)(h:Cmp K (λH=>SqT K H a xs) (λi=>(xs[i]?).getD .non) xs.length cs tt te H Q)(ha:H acc=none):Uz (Itt K a) 1 cs (Q3 0) (upT tt) (up te) H acc (λH'=>Q (.ref acc) H'):=by
 cases h with
 | s R G Z J L U=>
  refine XX (xs:=xs) (53:) ⟨Qb,Qc ha _,G _ (Qc ha _),Nat.zero_le _⟩ (λi ys H1 _ p=>p.2.1.seqT hx) (λi x ys H1 hi e p=>?_) λys H1 p=>U acc ys H1 p.2.1 p.1 p.2.2.1;have q:=L i ys H1 hi p.2.2.2 p.2.1 p.2.2.1;rw [e]at q;exact U0 hi J ha Z p.1 p.2.2.2 p.2.1 q
 | m R J G Y L U=>
  refine XX (xs:=xs) (λi ys H'=>R acc i ys H'/\ys.length<=i) ⟨G acc _ ha (Qc ha _) Qb,Nat.zero_le _⟩ (λi ys H1 _ p=>Y acc i ys H1 p.1) (λi x ys H1 hi e p=>?_) λys H1 p=>U acc ys H1 ha p.1;have q:=L acc i ys H1 hi p.2 ha p.1;rw [e]at q;exact Y5 hi J p.2 q
end
end G3
namespace G3
open PySem L2
structure Tb where
 N:List Str
 sc:Scope
 fn:List Str
 mt:List Str
 nk:List (Expr->Option (List Expr))
 sk:List (Stmt->Option (List Expr))
def Ro(sc:Scope)(x:Str):Bool:=match sc.names.lookup x with
 | some .local=>true
 | some .cell=>true
 | some .free=>true
 | _=>false
def PP(sc:Scope)(x:Str):Bool:=match sc.names.lookup x with
 | some .local=>true
 | some .cell=>true
 | _=>false
def glB(sc:Scope)(x:Str):Bool:=match sc.names.lookup x with
 | some .globalImplicit=>true
 | _=>false
def ndB(x:Str):Bool:=!(22:)&& !(x==("__classdict__":Str))
def PY:Const->V->Bool
 | .int i,.int j=>decide (i=j)
 | .str i,.str j=>decide (i=j)
 | .bool i,.bl j=>decide (i=j)
 | .none,.non=>true
 | _,_=>false
def O6(scope sc:Scope):Scope:={ scope with names:=scope.names.map λ(n,k)=>if(k==NameKind.free&&sc.kind== .function&&sc.names.lookup n==some .cell)then(n,NameKind.cell)else(n,k) }
def inn(T:Tb)(x:Str)(scope:Scope):Tb:=⟨x::Q2 scope.names,O6 scope T.sc,T.fn,T.mt,T.nk,T.sk⟩
def Uw(T:Tb)(cap:List Nat)(x:Str)(scope:Scope):Bool:=
 decide (scope.kind=.function)&&decide (T.sc.kind=.function)&&decide (cap.map (λj=>T.N[j]?)=(Q2 scope.names).map some)&&decide (∀z∈scope.names,z.2≠.cell)&&decide (∀y∈scope.names,y.2=.local->scope.names.lookup y.1=some .local)
  &&decide (scope.names.lookup x=some .local)&&decide ((x::Q2 scope.names).Nodup)&&decide (∀y∈Q2 scope.names,scope.names.lookup y=some .free)&&decide (∀y∈Q2 scope.names,T.sc.names.lookup y=some .cell)
def Pp:Expr->Bool
 | .Call _ _ _ _=>false
 | _=>true
structure Vw where
 t:Nat
 x:Str
 a:Expr
 b:Expr
 c:Expr
 l:List Expr
 p:Pos
 o:Operator
 q:CmpOp
 n:Const
 k:Nat
 s:Scope
def Vw.z:Vw:=⟨0,Str.empty,.Name Str.empty default,.Name Str.empty default,.Name Str.empty default,[],default,.Add,.Eq,.none,0,default⟩
def Aq(a:Expr):List CmpOp->List Expr->Vw
 | [q],[b]=>{ Vw.z with t:=4,a:=a,q:=q,b:=b }
 | _,_=>Vw.z
def SF(f:Expr):List Expr->List Keyword->Vw
 | a::l,[]=>match f with
  | .Name x p=>{ Vw.z with t:=8,x:=x,p:=p,a:=a,l:=l }
  | .Attribute b x p=>{ Vw.z with t:=15,b:=b,x:=x,p:=p,a:=a,l:=l }
  | _=>Vw.z
 | _,_=>Vw.z
def TR(a:Expr):UnaryOp->Vw
 | .Not=>{ Vw.z with t:=9,a:=a }
 | _=>Vw.z
def SI:BoolOp->List Expr->Vw
 | .And,a::b::l=>{ Vw.z with t:=10,a:=a,b:=b,l:=l }
 | .Or,a::b::l=>{ Vw.z with t:=11,a:=a,b:=b,l:=l }
 | _,_=>Vw.z
def vLc(a b:Expr)(s:Scope)(x:Str)(p:Pos):List Expr->Vw
 | []=>{ Vw.z with t:=13,a:=a,x:=x,p:=p,b:=b,s:=s }
 | [c]=>{ Vw.z with t:=14,a:=a,x:=x,p:=p,b:=b,c:=c,s:=s }
 | _=>Vw.z
def As(a:Expr)(s:Scope)(b:Expr)(ifs:List Expr)(g:Expr):Int->Vw
 | .ofNat 0=>match g with
  | .Name x p=>vLc a b s x p ifs
  | _=>Vw.z
 | _=>Vw.z
def vLs(a:Expr)(s:Scope):List Comprehension->Vw
 | [g]=>As a s g.iter g.ifs g.target g.is_async
 | _=>Vw.z
def vw:Expr->Vw
 | .Name x _=>{ Vw.z with t:=1,x:=x }
 | .Constant n k _=>{ Vw.z with t:=2,n:=n,k:=k }
 | .BinOp a o b _=>{ Vw.z with t:=3,a:=a,o:=o,b:=b }
 | .Compare a q b _=>Aq a q b
 | .Subscript a b _=>{ Vw.z with t:=5,a:=a,b:=b }
 | .Tuple l k _=>{ Vw.z with t:=6,l:=l,k:=k }
 | .List l _=>{ Vw.z with t:=7,l:=l }
 | .Call f l k _=>SF f l k
 | .UnaryOp o a _=>TR a o
 | .BoolOp o l _=>SI o l
 | .IfExp a b c _=>{ Vw.z with t:=12,a:=a,b:=b,c:=c }
 | .ListComp a g s _=>vLs a s g
 | _=>Vw.z
def reb(v:Vw)(p:Pos):Nat->Expr
 | 1=>.Name v.x p
 | 2=>.Constant v.n v.k p
 | 3=>.BinOp v.a v.o v.b p
 | 4=>.Compare v.a [v.q] [v.b] p
 | 5=>.Subscript v.a v.b p
 | 6=>.Tuple v.l v.k p
 | 7=>.List v.l p
 | 8=>.Call (.Name v.x v.p) (v.a::v.l) [] p
 | 9=>.UnaryOp .Not v.a p
 | 10=>.BoolOp .And (v.a::v.b::v.l) p
 | 11=>.BoolOp .Or (v.a::v.b::v.l) p
 | 12=>.IfExp v.a v.b v.c p
 | 13=>.ListComp v.a [⟨.Name v.x v.p,v.b,[],0⟩] v.s p
 | 14=>.ListComp v.a [⟨.Name v.x v.p,v.b,[v.c],0⟩] v.s p
 | 15=>.Call (.Attribute v.b v.x v.p) (v.a::v.l) [] p
 | _=>.Name v.x p
def Vok(v:Vw)(e:Expr):Prop:=v.t=0\/reb v e.pos v.t=e
theorem vw_eq(e:Expr):Vok (vw e) e:=by
 cases e with
 | Compare a q b p=>
  rcases q with _ | ⟨_,_ | ⟨_,_⟩⟩
  .exact .inl rfl
  .rcases b with _ | ⟨_,_ | ⟨_,_⟩⟩<;>first | exact .inr rfl | exact .inl rfl
  .exact .inl rfl
 | Call f l k p=>
  cases l with
  | nil=>exact .inl rfl
  | cons a l=>cases k with
   | nil=>cases f<;>first | exact .inr rfl | exact .inl rfl
   | cons _ _=>exact .inl rfl
 | UnaryOp o a p=>cases o<;>first | exact .inr rfl | exact .inl rfl
 | BoolOp o l p=>cases o<;>rcases l with _ | ⟨_,_ | ⟨_,_⟩⟩<;>first | exact .inr rfl | exact .inl rfl
 | ListComp a g s p=>
  rcases g with _ | ⟨⟨g,b,l,i⟩,_ | ⟨_,_⟩⟩
  .exact .inl rfl
  .rcases i with(_ | i) | i
   .cases g with
    | Name x q=>rcases l with _ | ⟨_,_ | ⟨_,_⟩⟩<;>first | exact .inr rfl | exact .inl rfl
    | _=>exact .inl rfl
   .exact .inl rfl
   .exact .inl rfl
  .exact .inl rfl
 | _=>first | exact .inr rfl | exact .inl rfl
def is(e:Expr)(n:Nat):Bool:=Nat.beq (vw e).t n
theorem rb{P:Expr->Prop}{e:Expr}{n:Nat}(h:is e (n+1)=true)(k:P (reb (vw e) e.pos (n+1))):P e:=by
 have G:(vw e).t=n+1:=Nat.eq_of_beq_eq_true h;rcases vw_eq e with h0 | h0
 .rw [h0]at G;cases G
 .rw [G]at h0;exact Eq.subst (motive:=P) h0 k
def La(kd:Nat)(f:Expr->Bool)(T:Tb)(b:Expr):Bool:=match kd with
 | 0=>is b 8&&(decide ((vw b).x="range")&&glB T.sc (vw b).x&&(vw b).l.isEmpty&&f (vw b).a&&ord (vw b).a)
 | 1=>f b&&ord b
 | 2=>f b&&ord b
 | _=>false
def rest(op:BoolOp)(v:Vw)(p:Pos):Expr:=match v.l with
 | []=>v.b
 | _::_=>.BoolOp op (v.b::v.l) p
mutual
noncomputable def chk:C->Tb->Expr->Bool
 | .v i,T,e=>is e 1&&(decide (T.N[i]?=some (vw e).x)&&Ro T.sc (vw e).x&&ndB (vw e).x)
 | .k x,_,e=>is e 2&&PY (vw e).n x
 | .bin op a b,T,e=>is e 3&&(decide (op=(vw e).o)&&chk a T (vw e).a&&chk b T (vw e).b)
 | .cmp op a b,T,e=>is e 4&&(decide (op=(vw e).q)&&chk a T (vw e).a&&chk b T (vw e).b&& !(behindInMarks op (vw e).b))
 | .ix a b,T,e=>is e 5&&(chk a T (vw e).a&&chk b T (vw e).b&&ord (vw e).b)
 | .tup as,T,e=>is e 6&&Ys as T (vw e).l
 | .lst as,T,e=>is e 7&&Ys as T (vw e).l
 | .call i as,T,e=>is e 8&&(decide (T.fn[i]?=some (vw e).x)&&glB T.sc (vw e).x&&ndB (vw e).x&&Ys as T ((vw e).a::(vw e).l))
 | .no a,T,e=>is e 9&&chk a T (vw e).a
 | .an a b,T,e=>is e 10&&(chk a T (vw e).a&&chk b T (rest .And (vw e) e.pos))
 | .oo a b,T,e=>is e 11&&(chk a T (vw e).a&&chk b T (rest .Or (vw e) e.pos))
 | .meth i o as,T,e=>is e 15&&(decide (T.mt[i]?=some (vw e).x)&&chk o T (vw e).b&&Pp (vw e).b&&Ys as T ((vw e).a::(vw e).l)&&Nat.ble ((vw e).a::(vw e).l).length 19&&((vw e).p.endLine==e.pos.line))
 | .nd i as,T,e=>match T.nk[i]? with
  | some sh=>match sh e with
   | some es=>Ys as T es
   | none=>false
  | none=>false
 | .iff c a b,T,e=>is e 12&&(chk c T (vw e).a&&chk a T (vw e).b&&chk b T (vw e).c)
 | .comp kd it cap elt,T,e=>is e 13&&(Uw T cap (vw e).x (vw e).s&&chk elt (inn T (vw e).x (vw e).s) (vw e).a&&La kd (chk it T) T (vw e).b)
 | .compI kd it cap cnd elt,T,e=>is e 14&&(Uw T cap (vw e).x (vw e).s&&chk elt (inn T (vw e).x (vw e).s) (vw e).a&&chk cnd (inn T (vw e).x (vw e).s) (vw e).c&&La kd (chk it T) T (vw e).b)
termination_by structural c=>c
noncomputable def Ys:List C->Tb->List Expr->Bool
 | [],_,es=>es.isEmpty
 | a::r,T,es=>match es with
  | e::es=>ord e&&chk a T e&&Ys r T es
  | []=>false
termination_by structural c=>c
end
end G3
namespace G3
open PySem L2
theorem Sc{sc:Scope}{x:Str}(h:Ro sc x=true):Vis sc x:=by
 unfold Ro at h;split at h
 .exact .inl (by assumption)
 .exact .inr (.inl (by assumption))
 .exact .inr (.inr (by assumption))
 .cases h
theorem Mz{sc:Scope}{x:Str}(h:PP sc x=true):Loc sc x:=by
 unfold PP at h;split at h
 .exact .inl (by assumption)
 .exact .inr (by assumption)
 .cases h
theorem MA{X:Cx}{x:Str}(h:glB X.env.scope x=true):Gl X x:=by
 unfold glB at h;split at h
 .assumption
 .cases h
theorem Ma{x:Str}(h:ndB x=true):(22:)=false/\(x==("__classdict__":Str))=false:=by
 unfold ndB at h;rw [Bool.and_eq_true]at h;exact⟨by simpa using h.1,by simpa using h.2⟩
theorem Xp{k:V->Prop}:∀{σ:St}{i:Nat},Re σ i k->∃v,σ[i]?=some (some v)/\k v
 | [],_,h=>h.elim
 | none::_,0,h=>h.elim
 | some x::_,0,h=>⟨x,rfl,h⟩
 | none::r,n+1,h=>by rw [List.getElem?_cons_succ];exact Xp (σ:=r) (i:=n) h
 | some _::r,n+1,h=>by rw [List.getElem?_cons_succ];exact Xp (σ:=r) (i:=n) h
theorem Zr{x:V}:∀{σ:St}{i:Nat}{k:St->Prop},setS σ i x k->k (σ.set i (some x))
 | [],_,_,h=>h.elim
 | _::_,0,_,h=>h
 | a::r,n+1,k,h=>Zr (σ:=r) (i:=n) (k:=λG=>k (a::G)) h
theorem Ud{x:V}{H:Hp}{Q:Bool->Hp->Prop}(h:asB x H Q):∃b,x=.bl b/\Q b H:=by
 unfold asB at h;split at h
 .exact⟨_,rfl,h⟩
 .exact h.elim
theorem GJ{c:Bool}{A B:Prop}(h:cond c A B):if c=true then A else B:=by
 cases c with
 | true=>exact h
 | false=>exact h
theorem XY:∀{xs:List V}{n:Nat},GS xs n=true->xs.length<=n
 | [],_,_=>Nat.zero_le _
 | _::_,0,h=>nomatch h
 | _::r,n+1,h=>Nat.succ_le_succ (XY (xs:=r) h)
theorem LH{xs:List V}{n:Nat}{A:Prop}(h:cond (GS xs n) A False):xs.length<=n/\A:=by
 cases G:GS xs n with
 | false=>rw [G]at h;exact h.elim
 | true=>rw [G]at h;exact⟨XY G,h⟩
theorem X7{T:Tb}:∀(as:List C)(es:List Expr),Ys as T es=true->es.all ord=true
 | [],[],_=>rfl
 | [],_::_,h=>nomatch h
 | _::_,[],h=>nomatch h
 | a::r,e::es,h=>by
  have h:(ord e&&chk a T e&&Ys r T es)=true:=h;rw [Bool.and_eq_true,Bool.and_eq_true]at h;rw [List.all_cons,Bool.and_eq_true];exact⟨h.1.1,X7 r _ h.2⟩
theorem Tj{X:Cx}{op:BoolOp}{es:List Expr}{pos:Pos}{t:TT}(h:PT X (.BoolOp op es pos) t):PW X (.BoolOp op es pos) t:=λ_ pins s σ H Q I q=>h pins s σ H Q I q
def ET(n:En)(c:C):TT:=λσ H Q=>E n c σ H λx H1=>asB x H1 Q
theorem XT:∀{cap:List Nat}{σ:St},Wx cap σ=JH cap σ
 | [],_=>rfl
 | j::r,σ=>by rw [Wx,XT (cap:=r)];rfl
structure Fam(X X':Cx):Prop where
 p:X'.prog=X.prog
 w:X'.w=X.w
 K:X'.K=X.K
 m:X'.mg=X.mg
 b:X'.base=X.base
 A:X'.A=X.A
 c:X'.calm=X.calm
structure Fit(X:Cx)(T:Tb)(fs:List Rel)(ms:List Mr)(nr:List (48:)):Prop where
 hN:T.N=X.N
 hs:T.sc=X.env.scope
 hf:∀X':Cx,Fam X X'->∀(i:Nat) x,T.fn[i]?=some x->∃r,fs[i]?=some r/\CallOk X' x r
 hm:∀X':Cx,Fam X X'->∀(i:Nat) x,T.mt[i]?=some x->∃r,ms[i]?=some r/\MethOk X' x r
 hn:∀X':Cx,Fam X X'->∀(i:Nat) sh,T.nk[i]?=some sh->∃r,nr[i]?=some r/\NodeOk X' sh r
 ca:X.calm=true
 rg:X.mg "range"=none
theorem Fit.inn{X:Cx}{T:Tb}{fs:List Rel}{ms:List Mr}{nr:List (48:)}(F:Fit X T fs ms nr)(x:Str)(scope:Scope)(cl:List (38:))(C:Addr)(fp:List Addr)(s₀:Shared)(H₀:Hp):Fit (59:) (inn T x scope) fs ms nr:=
 ⟨rfl,by
  show O6 scope T.sc=relabel scope X.env;rw [F.hs];rfl,λG f=>F.hf G ⟨f.p,f.w,f.K,f.m,f.b,f.A,f.c⟩,λG f=>F.hm G ⟨f.p,f.w,f.K,f.m,f.b,f.A,f.c⟩,λG f=>F.hn G ⟨f.p,f.w,f.K,f.m,f.b,f.A,f.c⟩,F.ca,F.rg⟩
theorem Go{X:Cx}{T:Tb}{fs:List Rel}{ms:List Mr}{nr:List (48:)}(F:Fit X T fs ms nr){cap:List Nat}{x:Str}{scope:Scope}(h:Uw T cap x scope=true)(has:∀y,X.env.scope.names.lookup y=some .cell->∃c,X.env.cells.lookup y=some c):∃cl,CompG X [x] (Q2 scope.names) cap scope cl:=by
 unfold Uw at h;simp only [Bool.and_eq_true,decide_eq_true_eq]at h;obtain⟨⟨⟨⟨⟨⟨⟨⟨h1,h2⟩,L⟩,Y⟩,Z⟩,h6⟩,h7⟩,h8⟩,G⟩:=h;rw [F.hs]at h2 G;rw [F.hN]at L;obtain⟨cs,U⟩: ∃cs:List Addr,(Q2 scope.names).map (λy=>X.env.cells.lookup y)=cs.map some:=by
  have:∀l:List Str,(∀y∈l,X.env.scope.names.lookup y=some .cell)->∃cs:List Addr,l.map (λy=>X.env.cells.lookup y)=cs.map some:=by
   intro l
   induction l with
   | nil=>exact λ_=>⟨[],rfl⟩
   | cons y r ih=>
    intro h;obtain⟨cs,e⟩:=ih λz J=>h z (List.mem_cons_of_mem _ J);obtain⟨c,ec⟩:=has y (h y List.mem_cons_self);exact⟨c::cs,by rw [List.map_cons,e,ec];rfl⟩
  exact this _ G
 exact⟨_,CompG.many (xs:=[x]) (caps:=Q2 scope.names) (cap:=cap) (cs:=cs) h1 h2 rfl Y Z (λz J=>by rw [List.mem_singleton.mp J];exact h6) h7 h8 (List.map_congr_left λy hy=>G y hy) U L⟩
theorem pvT{X:Cx}{e:Expr}{t:TE}(h:PE X e t)(ht:tst e=true):PE X e t/\PT X e (λσ H Q=>t σ H λx H1=>asB x H1 Q):=⟨h,Yi (QS (QO h) (GG ht)) λσ H Q q=>⟨_,q,λx H1 q=>Ud q⟩⟩
theorem XL{n:En}:∀(as:List C){σ:St}{H:Hp}{Q:List V->Hp->Prop},Es n as σ H Q↔Vx (as.map (E n)) σ H Q
 | [],σ,H,Q=>Iff.rfl
 | a::r,σ,H,Q=>by
  have:(λx H1=>Es n r σ H1 λxs H2=>Q (x::xs) H2)=λx H1=>Vx (r.map (E n)) σ H1 λxs H2=>Q (x::xs) H2:=by
   funext x H1
   exact propext (XL r)
  show(E n a σ H λx H1=>Es n r σ H1 λxs H2=>Q (x::xs) H2)↔_;rw [this];exact Iff.rfl
theorem MY{α:Type}{l:List α}(h:l.isEmpty=true):l=[]:=by
 cases l with
 | nil=>rfl
 | cons _ _=>cases h
theorem Nx{X:Cx}{op:BoolOp}{v:Vw}{p:Pos}{t:TE}(h:PE X (rest op v p) t):PE X (.BoolOp op (v.b::v.l) p) t:=by
 obtain⟨_,_,_,b,_,l,_,_,_,_,_,_⟩:=v;cases l with
 | nil=>exact Xy h
 | cons _ _=>exact h
theorem Sd{X:Cx}{v:Vw}{p:Pos}{t:TT}(h:PT X (rest .And v p) t):PW X (.BoolOp .And (v.b::v.l) p) t:=by
 obtain⟨_,_,_,b,_,l,_,_,_,_,_,_⟩:=v;cases l with
 | nil=>exact pw_and1 h
 | cons _ _=>exact Tj h
theorem PX{X:Cx}{v:Vw}{p:Pos}{t:TT}(h:PT X (rest .Or v p) t):PW X (.BoolOp .Or (v.b::v.l) p) t:=by
 obtain⟨_,_,_,b,_,l,_,_,_,_,_,_⟩:=v;cases l with
 | nil=>exact pw_or1 h
 | cons _ _=>exact Tj h
theorem b2{a b:Bool}(h:(a&&b)=true):a=true/\b=true:=by rwa [Bool.and_eq_true]at h
theorem JA{K:Fg}{m:Nat}{cs:St}{tt:TT}{te:TE}{H:Hp}{Q Q':VK}{it:Hp->Prop}{itm:Nat->V}(h:Cmp K it itm m cs tt te H Q)(k:∀x H,Q x H->Q' x H):Cmp K it itm m cs tt te H Q':=by
 cases h with
 | s R G Y J L U=>exact .s R G Y J L λp ys H1 g e r=>k _ _ (U p ys H1 g e r)
 | m R J G Z L U=>exact .m R J G Z L λp ys H1 g r=>k _ _ (U p ys H1 g r)
def ItR(X:Cx)(kd:Nat)(tit:TE)(tg b:Expr):Prop:=∃wi:TI,PI X tg b wi/\(∀x,foldedSetIterable b X.env x=pure x)/\∀cap tt te σ H (Q Q':VK),(∀x H,Q x H->Q' x H)->(tit σ H λx H1=>Nw X.K kd x (Wx cap σ) tt te H1 Q)->Z9 1 wi cap (Q3 0) (upT tt) (up te) σ H Q'
theorem Pi{X:Cx}{T:Tb}{fs:List Rel}{ms:List Mr}{nr:List (48:)}(F:Fit X T fs ms nr){kd:Nat}{f:Expr->Bool}{b tg:Expr}{tit:TE}(h:La kd f T b=true)(hf:∀e,f e=true->PE X e tit):ItR X kd tit tg b:=by
 match kd,h with
 | 0,h=>
  obtain⟨h0,h⟩:=b2 (show(is b 8&&_)=true from h);obtain⟨h,G⟩:=b2 h;obtain⟨h,J⟩:=b2 h;obtain⟨h,z5⟩:=b2 h;obtain⟨Y,Z⟩:=b2 h;rw [F.hs,of_decide_eq_true Y]at Z;refine rb (P:=ItR X 0 tit tg) h0 ?_;show ItR X 0 tit tg (.Call (.Name (vw b).x (vw b).p) ((vw b).a::(vw b).l) [] b.pos);rw [of_decide_eq_true Y,MY z5];refine⟨_,ZM (MA Z) F.rg (Qa (QO (hf _ J)) Qe (Zd G)) (Zd G),λ_=>rfl,λcap tt te σ H Q Q' k q=>(86:)⟩;cases x with
  | int j=>
   obtain⟨hr,q⟩:=q;rw [XT]at q;exact⟨j,rfl,hr.1,hr.2,λacc L=>GW (JA q k) L⟩
  | _=>exact False.elim q
 | 1,h=>
  obtain⟨J,G⟩:=b2 h;refine⟨_,QG (QO (hf _ J)),Z4 G,λcap tt te σ H Q Q' k q=>(86:)⟩;cases x with
  | ref a=>
   cases q with
   | l xs U q=>
    rw [XT]at q;exact⟨a,rfl,⟨xs,U⟩,λacc L=>LB U (JA q k) L⟩
  | _=>exact False.elim q
 | 2,h=>
  obtain⟨J,G⟩:=b2 h;refine⟨_,Ub (QO (hf _ J)),Z4 G,λcap tt te σ H Q Q' k q=>(86:)⟩;cases x with
  | ref a=>
   cases q with
   | t xs U q=>
    rw [XT]at q;exact⟨a,rfl,⟨xs,U⟩,λacc L=>Oe U (JA q k) L⟩
  | _=>exact False.elim q
 | _+3,h=>exact nomatch h
theorem Pk{X:Cx}{T:Tb}{fs:List Rel}{ms:List Mr}{nr:List (48:)}(F:Fit X T fs ms nr){kd:Nat}{f:Expr->Bool}{el b:Expr}{ifs:List Expr}{x:Str}{p pos:Pos}{scope:Scope}{cap:List Nat}{tit te:TE}{tt:TT}(h1:Uw T cap x scope=true)(h:La kd f T b=true)(hf:∀e,f e=true->PE X e tit)
 (hel:∀cl C fp s₀ H₀,PE (59:) el te) (hc:∀cl C fp s₀ H₀,PF (59:) ifs tt):PE X (.ListComp el [⟨.Name x p,b,ifs,0⟩] scope pos) (λσ H Q=>tit σ H λv H1=>Nw X.K kd v (Wx cap σ) tt te H1 Q):=λpins s σ H Q I q=>by
 obtain⟨cl,O⟩:=Go F h1 λy G=>I.ok.has y (.inl G);obtain⟨Y,J,L,U⟩:=Pi F (tg:=.Name x p) h hf;exact QH O F.ca J (Z7 O) (λC fp s₀ H₀=>O8 (hc cl C fp s₀ H₀)) (λC fp s₀ H₀=>QO (hel cl C fp s₀ H₀)) L pins s σ H Q I (U _ _ _ _ _ _ _ (λ_ _ q=>q) q)
theorem RI{X:Cx}{c:Const}{x:V}{k:Nat}{p:Pos}(h:PY c x=true):PE X (.Constant c k p) (λ_ H Q=>Q x H):=by
 unfold PY at h;split at h
 .rw [of_decide_eq_true h];exact Qf
 .rw [of_decide_eq_true h];exact QJ
 .rw [of_decide_eq_true h];exact ZZ
 .exact Uk
 .cases h
theorem rbE{X:Cx}{e:Expr}{n:Nat}{t:TE}{u:TT}(h:is e (n+1)=true)(k:PE X (reb (vw e) e.pos (n+1)) t/\PT X (reb (vw e) e.pos (n+1)) u):PE X e t/\PT X e u:=rb (P:=λe=>PE X e t/\PT X e u) h k
theorem PQ{e:Expr}{m:Str}{env:Env}(h:Pp e=true):attributeBase e m env (eval e env)=eval e env:=by
 cases e<;>first | rfl | exact absurd (show false=true from h) Bool.false_ne_true
section
variable{fs:List Rel}{ms:List Mr}{nr:List (48:)}{sr:List (St->List V->Hp->(St->Hp->Prop)->Prop)}
mutual
theorem snb:∀(c:C){X:Cx}{T:Tb}(F:Fit X T fs ms nr)(e:Expr),chk c T e=true->PE X e (E (35:) c)/\PT X e (ET (35:) c)
 | .v i,X,T,F,e,h=>by
  obtain⟨G,h⟩:=b2 h;obtain⟨h,J⟩:=b2 h;obtain⟨h1,h2⟩:=b2 h;have h1:=of_decide_eq_true h1;rw [F.hN]at h1;rw [F.hs]at h2;exact rbE G (pvT (QW (Vk h1 (Sc h2) (Ma J).1 (Ma J).2) λσ H Q q=>Xp q) rfl)
 | .k x,X,T,F,e,h=>by
  obtain⟨G,h⟩:=b2 h;exact rbE G (pvT (RI h) rfl)
 | .bin Y a b,X,T,F,e,h=>by
  obtain⟨G,h⟩:=b2 h;obtain⟨h,J⟩:=b2 h;obtain⟨h1,h2⟩:=b2 h;refine rbE G ?_;show PE X (.BinOp (vw e).a (vw e).o (vw e).b e.pos) _/\PT X (.BinOp (vw e).a (vw e).o (vw e).b e.pos) _;rw [<-of_decide_eq_true h1];exact pvT (Qy (Aw Y) (snb a F _ h2).1 (snb b F _ J).1) rfl
 | .cmp Y a b,X,T,F,e,h=>by
  obtain⟨G,h⟩:=b2 h;obtain⟨h,U⟩:=b2 h;obtain⟨h,J⟩:=b2 h;obtain⟨h1,h2⟩:=b2 h;have U:behindInMarks Y (vw e).b=false:=by simpa using U
  refine rbE G ?_;show PE X (.Compare (vw e).a [(vw e).q] [(vw e).b] e.pos) _/\PT X (.Compare (vw e).a [(vw e).q] [(vw e).b] e.pos) _;rw [<-of_decide_eq_true h1];exact⟨YG (TH Y) (snb a F _ h2).1 (snb b F _ J).1 U,Yi (QC (Mi (TH Y)) (QO (snb a F _ h2).1) (QO (snb b F _ J).1) U) λσ H Q q=>⟨_,q,λx H1 q=>⟨_,q,λy H2 q=>⟨_,q,λz H3 q=>Ud q⟩⟩⟩⟩
 | .ix a b,X,T,F,e,h=>by
  obtain⟨G,h⟩:=b2 h;obtain⟨h,J⟩:=b2 h;obtain⟨h1,h2⟩:=b2 h;exact rbE G (pvT (Qk AD (snb a F _ h1).1 (snb b F _ h2).1 (LG J)) rfl)
 | .tup L,X,T,F,e,h=>by
  obtain⟨G,h⟩:=b2 h;exact rbE G (pvT (QW (Qx (Pd (Lz L F _ h))) λσ H Q q=>⟨_,q,λvs H1 q=>by
   obtain⟨hl,q⟩:=LH q;exact⟨Nat.le_trans hl (18:),λp hp=>q.h p _ (Qc hp _) (SqT.of Qb) Qb⟩⟩) rfl)
 | .lst L,X,T,F,e,h=>by
  obtain⟨G,h⟩:=b2 h;exact rbE G (pvT (QW (Yt (Pd (Lz L F _ h))) λσ H Q q=>⟨_,q,λvs H1 q=>by
   obtain⟨hl,q⟩:=LH q;exact⟨Nat.le_trans hl (18:),λp hp=>q.h p _ (Qc hp _) Qb hp⟩⟩) rfl)
 | .call i L,X,T,F,e,h=>by
  obtain⟨G,h⟩:=b2 h;obtain⟨h,U⟩:=b2 h;obtain⟨h,J⟩:=b2 h;obtain⟨h1,h2⟩:=b2 h;obtain⟨r,e1,e2⟩:=F.hf X ⟨rfl,rfl,rfl,rfl,rfl,rfl,rfl⟩ _ _ (of_decide_eq_true h1);rw [F.hs]at h2;have Z:=X7 L _ U;rw [List.all_cons,Bool.and_eq_true]at Z;refine rbE G (pvT (QW (e2.ok (vw e).p e.pos _ _ _ (Lz L F _ U) (MA h2) (Ma J).1 (Zd Z.1) (Y7 Z.2)) λσ H Q q=>?_) rfl);have q:Es (35:) L σ H λvs H1=>match fs[i]? with | some r=>r σ vs H1 Q | none=>False:=q
  rw [e1]at q;exact q
 | .no a,X,T,F,e,h=>by
  obtain⟨G,h⟩:=b2 h;exact rbE G ⟨QW (LF (QO (snb a F _ h).1)) λσ H Q q=>⟨_,q,λx H1 q=>Ud q⟩,Zy (snb a F _ h).2⟩
 | .an a b,X,T,F,e,h=>by
  obtain⟨G,h⟩:=b2 h;obtain⟨h1,h2⟩:=b2 h;exact rbE G ⟨QW (U6 (QO (snb a F _ h1).1) (Nx (snb b F _ h2).1)) λσ H Q q=>⟨_,q,λx H1 q=>by
   obtain⟨c,e,q⟩:=Ud q;exact⟨c,e,GJ q⟩⟩,Yi (PW.pt (pw_and (WC (snb a F _ h1).2) (Sd (snb b F _ h2).2))) λσ H Q q=>⟨_,q,λx H1 q=>GJ q⟩⟩
 | .oo a b,X,T,F,e,h=>by
  obtain⟨G,h⟩:=b2 h;obtain⟨h1,h2⟩:=b2 h;exact rbE G ⟨QW (S6 (QO (snb a F _ h1).1) (Nx (snb b F _ h2).1)) λσ H Q q=>⟨_,q,λx H1 q=>by
   obtain⟨c,e,q⟩:=Ud q;exact⟨c,e,GJ q⟩⟩,Yi (PW.pt (pw_or (WC (snb a F _ h1).2) (PX (snb b F _ h2).2))) λσ H Q q=>⟨_,q,λx H1 q=>GJ q⟩⟩
 | .meth i o L,X,T,F,e,h=>by
  obtain⟨G,h⟩:=b2 h;obtain⟨h,h6⟩:=b2 h;obtain⟨h,Z⟩:=b2 h;obtain⟨h,U⟩:=b2 h;obtain⟨h,J⟩:=b2 h;obtain⟨h1,h2⟩:=b2 h;obtain⟨r,e1,e2⟩:=F.hm X ⟨rfl,rfl,rfl,rfl,rfl,rfl,rfl⟩ _ _ (of_decide_eq_true h1);refine rbE G (pvT (QW (e2.ok (vw e).b _ _ _ _ (vw e).p e.pos (QO (snb o F _ h2).1) (Lz L F _ U) (PQ J) (X7 L _ U) (Nat.lt_succ_of_le (Nat.ble_eq.mp Z)) h6) λσ H Q q=>(86:)) rfl);have q:(match ms[i]? with | some m=>Cnd (m.ty x H1) (Es (35:) L σ H1 λxs H2=>m.r x xs H2 Q) | none=>False):=q;rw [e1]at q;exact⟨q.h,q.k⟩
 | .nd i L,X,T,F,e,h=>by
  have h:(match T.nk[i]? with
   | some sh=>match sh e with
    | some es=>Ys L T es
    | none=>false
   | none=>false)=true:=h
  split at h
  .rename_i sh ac;obtain⟨r,e1,e2⟩:=F.hn X ⟨rfl,rfl,rfl,rfl,rfl,rfl,rfl⟩ _ _ ac;split at h
   .rename_i es ab;refine⟨QW (e2.ok e es _ ab (OS L F _ h)) λσ H Q q=>?_,Yi (e2.okT e es _ ab (OS L F _ h)) λσ H Q q=>?_⟩
    .have q:Es (35:) L σ H λvs H1=>match nr[i]? with | some r=>r vs H1 Q | none=>False:=q
     rw [e1]at q;exact(XL L).mp q
    .have q:Es (35:) L σ H λvs H1=>match nr[i]? with | some r=>r vs H1 (λx H2=>asB x H2 Q) | none=>False:=q
     rw [e1]at q;exact(XL L).mp q
   .cases h
  .cases h
 | .iff c a b,X,T,F,e,h=>by
  obtain⟨G,h⟩:=b2 h;obtain⟨h,J⟩:=b2 h;obtain⟨h1,h2⟩:=b2 h;refine rbE G ⟨QW (Jm (WC (snb c F _ h1).2) (snb a F _ h2).1 (snb b F _ J).1) λσ H Q q=>⟨_,q,λx H1 q=>GJ q⟩,λpins s σ H Q I q=>?_⟩;refine PyProof.Rows.isTrue_IfExp (thn ((snb c F _ h1).2 pins s σ H _ I q) λd s1 ⟨H1,I1,q1⟩=>?_);cases d with
  | true=>exact(snb a F _ h2).2 pins s1 σ H1 _ I1 q1
  | false=>exact(snb b F _ J).2 pins s1 σ H1 _ I1 q1
 | .comp kd it cap aa,X,T,F,e,h=>by
  obtain⟨G,h⟩:=b2 h;obtain⟨h,J⟩:=b2 h;obtain⟨h1,h2⟩:=b2 h;exact rbE G (pvT (Pk F h1 J (λe h=>(snb it F e h).1) (λcl C fp s₀ H₀=>(snb aa (F.inn _ _ cl C fp s₀ H₀) _ h2).1) λ_ _ _ _ _=>Q1) rfl)
 | .compI kd it cap ad aa,X,T,F,e,h=>by
  obtain⟨G,h⟩:=b2 h;obtain⟨h,J⟩:=b2 h;obtain⟨h,hc⟩:=b2 h;obtain⟨h1,h2⟩:=b2 h;exact rbE G (pvT (Pk F h1 J (λe h=>(snb it F e h).1) (λcl C fp s₀ H₀=>(snb aa (F.inn _ _ cl C fp s₀ H₀) _ h2).1) λcl C fp s₀ H₀=>Np (snb ad (F.inn _ _ cl C fp s₀ H₀) _ hc).2) rfl)
theorem Lz:∀(as:List C){X:Cx}{T:Tb}(F:Fit X T fs ms nr)(es:List Expr),Ys as T es=true->PA X es (Es (35:) as)
 | [],X,T,F,[],h=>Qe
 | [],_,_,_,_::_,h=>nomatch h
 | _::_,_,_,_,[],h=>nomatch h
 | a::r,X,T,F,e::es,h=>by
  obtain⟨h,G⟩:=b2 (show(ord e&&chk a T e&&Ys r T es)=true from h);obtain⟨h1,h2⟩:=b2 h;exact Qa (snb a F _ h2).1 (Lz r F _ G) (Zd h1)
theorem OS:∀(as:List C){X:Cx}{T:Tb}(F:Fit X T fs ms nr)(es:List Expr),Ys as T es=true->PEs X es (as.map (E (35:)))
 | [],X,T,F,[],h=>.nil
 | [],_,_,_,_::_,h=>nomatch h
 | _::_,_,_,_,[],h=>nomatch h
 | a::r,X,T,F,e::es,h=>by
  obtain⟨h,G⟩:=b2 (show(ord e&&chk a T e&&Ys r T es)=true from h);exact .cons (snb a F _ (b2 h).2).1 (OS r F _ G)
end
theorem snd(c:C){X:Cx}{T:Tb}(F:Fit X T fs ms nr)(e:Expr)(h:chk c T e=true):PE X e (E (35:) c):=(snb c F e h).1
theorem snt(c:C){X:Cx}{T:Tb}(F:Fit X T fs ms nr)(e:Expr)(h:chk c T e=true):PT X e (ET (35:) c):=(snb c F e h).2
end
end G3
namespace G3
open PySem L2
inductive S where
 | set (i:Nat) (c:C) | ret (c:C) | ex (c:C) | ite (c:C) (a b:List S)
 | forR (i:Nat) (c:C) (b:List S) | forL (i:Nat) (c:C) (b:List S) | forT (i:Nat) (c:C) (b:List S)
 | setC (i:Nat) (c:C) | cut (s:S) | unp (is:List Nat) (c:C)
 | wh (c:C) (b:List S) | forU (is:List Nat) (c:C) (b:List S) | sx (i:Nat) (as:List C)
inductive ForR(i m:Nat)(tb:TS)(D:Ends)(σ:St)(H:Hp):Prop where
 | f (Pv:Nat->St->Hp->Prop) (h0:Pv 0 σ H) (hs:∀j σ H,j<m->Pv j σ H->setS σ i (.int (j:Int)) λσ2=>tb { D with nx:=Pv (j+1),ct:=Pv (j+1),bk:=D.nx } σ2 H) (hd:∀σ H,Pv m σ H->D.nx σ H):ForR i m tb D σ H
inductive ForL(K:Fg)(i:Nat)(a:Addr)(tb:TS)(D:Ends)(σ:St)(H:Hp):Prop where
 | f (xs:List V) (Pv:Nat->St->Hp->Prop) (h0:Pv 0 σ H) (hl:∀j σ H,j<=xs.length->Pv j σ H->SqL K H a xs) (hs:∀j x σ H,xs[j]?=some x->Pv j σ H->setS σ i x λσ2=>tb { D with nx:=Pv (j+1),ct:=Pv (j+1),bk:=D.nx } σ2 H) (hd:∀σ H,Pv xs.length σ H->D.nx σ H):ForL K i a tb D σ H
inductive ForT(K:Fg)(i:Nat)(a:Addr)(tb:TS)(D:Ends)(σ:St)(H:Hp):Prop where
 | f (xs:List V) (Pv:Nat->St->Hp->Prop) (h0:Pv 0 σ H) (hl:∀j σ H,j<=xs.length->Pv j σ H->SqT K H a xs) (hs:∀j x σ H,xs[j]?=some x->Pv j σ H->setS σ i x λσ2=>tb { D with nx:=Pv (j+1),ct:=Pv (j+1),bk:=D.nx } σ2 H) (hd:∀σ H,Pv xs.length σ H->D.nx σ H):ForT K i a tb D σ H
inductive Cut(t:TS)(D:Ends)(σ:St)(H:Hp):Prop where
 | c (R:St->Hp->Prop) (h:t { D with nx:=R } σ H) (k:∀σ' H',R σ' H'->D.nx σ' H'):Cut t D σ H
def Wm:St->List Nat->List V->(St->Prop)->Prop
 | σ,[],[],k=>k σ
 | σ,i::is,x::xs,k=>setS σ i x λσ'=>Wm σ' is xs k
 | _,_,_,_=>False
inductive Unp(K:Fg)(a:Addr)(is:List Nat)(σ:St)(H:Hp)(k:St->Hp->Prop):Prop where
 | u (xs:List V) (h:SqT K H a xs) (q:Wm σ is xs λσ'=>k σ' H):Unp K a is σ H k
inductive Wh(c:TT)(tb:TS)(D:Ends)(σ:St)(H:Hp):Prop where
 | w (J:Nat->St->Hp->Prop) (m:Nat) (h0:J m σ H) (hs:∀m σ H,J m σ H->c σ H λb H1=>cond b (tb { D with nx:=λσ' H'=>∃m'<m,J m' σ' H',ct:=λσ' H'=>∃m'<m,J m' σ' H',bk:=D.nx } σ H1) (D.nx σ H1)):Wh c tb D σ H
inductive ForU(K:Fg)(is:List Nat)(a:Addr)(tb:TS)(D:Ends)(σ:St)(H:Hp):Prop where
 | f (xs:List V) (Pv:Nat->St->Hp->Prop) (h0:Pv 0 σ H) (hl:∀j σ H,j<=xs.length->Pv j σ H->SqL K H a xs) (hs:∀j x σ H,xs[j]?=some x->Pv j σ H->∃b ys,x=.ref b/\SqT K H b ys/\Wm σ is ys λσ2=>tb { D with nx:=Pv (j+1),ct:=Pv (j+1),bk:=D.nx } σ2 H) (hd:∀σ H,Pv xs.length σ H->D.nx σ H):ForU K is a tb D σ H
mutual
noncomputable def E1(n:En):S->TS
 | .set i c=>λD σ H=>E n c σ H λx H1=>setS σ i x λσ'=>D.nx σ' H1
 | .ret c=>λD σ H=>E n c σ H D.rt
 | .ex c=>λD σ H=>E n c σ H λ_ H1=>D.nx σ H1
 | .ite c a b=>λD σ H=>ET n c σ H λt H1=>cond t (ES n a D σ H1) (ES n b D σ H1)
 | .forR i c b=>λD σ H=>E n c σ H λx H1=>match x with | .int j=>Cnd (SK j) (ForR i j.toNat (ES n b) D σ H1) | _=>False
 | .forL i c b=>λD σ H=>E n c σ H λx H1=>match x with | .ref a=>ForL n.K i a (ES n b) D σ H1 | _=>False
 | .forT i c b=>λD σ H=>E n c σ H λx H1=>match x with | .ref a=>ForT n.K i a (ES n b) D σ H1 | _=>False
 | .cut s=>λD σ H=>Cut (E1 n s) D σ H
 | .unp is c=>λD σ H=>E n c σ H λx H1=>match x with | .ref a=>Unp n.K a is σ H1 D.nx | _=>False
 | .wh c b=>λD σ H=>Wh (ET n c) (ES n b) D σ H
 | .forU is c b=>λD σ H=>E n c σ H λx H1=>match x with | .ref a=>ForU n.K is a (ES n b) D σ H1 | _=>False
 | .sx i as=>λD σ H=>Es n as σ H λvs H1=>match n.sr[i]? with | some r=>r σ vs H1 D.nx | none=>False
 | .setC i c=>λD σ H=>E n c σ H λx H1=>setS σ i x λσ'=>D.nx σ' H1
termination_by structural c=>c
noncomputable def ES(n:En):List S->TS
 | []=>λD σ H=>D.nx σ H
 | s::r=>λD σ H=>E1 n s { D with nx:=ES n r D } σ H
termination_by structural c=>c
end
structure Vs where
 t:Nat
 x:Str
 p:Pos
 a:Expr
 l:List Expr
 k:Nat
 b:List Stmt
 c:List Stmt
def Vs.z:Vs:=⟨0,Str.empty,default,.Name Str.empty default,[],0,[],[]⟩
def TW(a:Expr):List Expr->Vs
 | [g]=>match g with
  | .Name x p=>{ Vs.z with t:=1,x:=x,p:=p,a:=a }
  | .Tuple l k p=>{ Vs.z with t:=6,l:=l,k:=k,p:=p,a:=a }
  | _=>Vs.z
 | _=>Vs.z
def Al:Option Expr->Vs
 | some a=>{ Vs.z with t:=2,a:=a }
 | none=>Vs.z
def AC(g a:Expr)(b:List Stmt):List Stmt->Vs
 | []=>match g with
  | .Name x p=>{ Vs.z with t:=5,x:=x,p:=p,a:=a,b:=b }
  | .Tuple l k p=>{ Vs.z with t:=8,l:=l,k:=k,p:=p,a:=a,b:=b }
  | _=>Vs.z
 | _=>Vs.z
def sWh(a:Expr)(b:List Stmt):List Stmt->Vs
 | []=>{ Vs.z with t:=7,a:=a,b:=b }
 | _=>Vs.z
def vs:Stmt->Vs
 | .Assign g a _=>TW a g
 | .Return a _=>Al a
 | .Expr a _=>{ Vs.z with t:=3,a:=a }
 | .If a b c _=>{ Vs.z with t:=4,a:=a,b:=b,c:=c }
 | .For g a b c _=>AC g a b c
 | .While a b c _=>sWh a b c
 | _=>Vs.z
def Sz(v:Vs)(p:Pos):Nat->Stmt
 | 1=>.Assign [.Name v.x v.p] v.a p
 | 2=>.Return (some v.a) p
 | 3=>.Expr v.a p
 | 4=>.If v.a v.b v.c p
 | 5=>.For (.Name v.x v.p) v.a v.b [] p
 | 6=>.Assign [.Tuple v.l v.k v.p] v.a p
 | 7=>.While v.a v.b [] p
 | 8=>.For (.Tuple v.l v.k v.p) v.a v.b [] p
 | _=>.Pass p
theorem vs_eq(s:Stmt):(vs s).t=0\/∃p,Sz (vs s) p (vs s).t=s:=by
 cases s with
 | Assign g a p=>
  rcases g with _ | ⟨g,_ | ⟨_,_⟩⟩
  .exact .inl rfl
  .cases g<;>first | exact .inr ⟨_,rfl⟩ | exact .inl rfl
  .exact .inl rfl
 | Return a p=>cases a<;>first | exact .inr ⟨_,rfl⟩ | exact .inl rfl
 | For g a b c p=>
  cases c with
  | nil=>cases g<;>first | exact .inr ⟨_,rfl⟩ | exact .inl rfl
  | cons _ _=>exact .inl rfl
 | While a b c p=>cases c<;>first | exact .inr ⟨_,rfl⟩ | exact .inl rfl
 | _=>first | exact .inr ⟨_,rfl⟩ | exact .inl rfl
def isS(s:Stmt)(n:Nat):Bool:=Nat.beq (vs s).t n
theorem rbS{X:Cx}{t:TS}{s:Stmt}{n:Nat}(h:isS s (n+1)=true)(k:∀p,PS X (Sz (vs s) p (n+1)) t):PS X s t:=by
 have J:(vs s).t=n+1:=Nat.eq_of_beq_eq_true h;rcases vs_eq s with G | ⟨p,G⟩
 .rw [G]at J;cases J
 .rw [J]at G;exact Eq.subst (motive:=λs=>PS X s t) G (k p)
def tgB(T:Tb)(i:Nat)(x:Str):Bool:=decide (T.N[i]?=some x)&&PP T.sc x
def chN(T:Tb):List Nat->List Expr->Bool
 | [],es=>es.isEmpty
 | i::is,es=>match es with
  | e::es=>G3.is e 1&&tgB T i (vw e).x&&chN T is es
  | []=>false
def O3:Expr->Bool
 | .Tuple _ _ _=>false
 | _=>true
def VN:C->Bool
 | .comp _ _ _ _=>true
 | .compI _ _ _ _ _=>true
 | _=>false
mutual
noncomputable def ch1(T:Tb):S->Stmt->Bool
 | .set i c,s=>isS s 1&&(tgB T i (vs s).x&&chk c T (vs s).a&&osw (vs s).a)
 | .ret c,s=>isS s 2&&chk c T (vs s).a
 | .ex c,s=>isS s 3&&(chk c T (vs s).a&&osw (vs s).a)
 | .ite c a b,s=>isS s 4&&(chk c T (vs s).a&&chS T a (vs s).b&&chS T b (vs s).c)
 | .forR i c b,s=>isS s 5&&(tgB T i (vs s).x&&La 0 (chk c T) T (vs s).a&&chS T b (vs s).b)
 | .forL i c b,s=>isS s 5&&(tgB T i (vs s).x&&(chk c T (vs s).a&&ord (vs s).a)&&chS T b (vs s).b)
 | .forT i c b,s=>isS s 5&&(tgB T i (vs s).x&&(chk c T (vs s).a&&ord (vs s).a)&&chS T b (vs s).b)
 | .cut a,s=>ch1 T a s
 | .unp is c,s=>isS s 6&&(chN T is (vs s).l&&chk c T (vs s).a&&O3 (vs s).a)
 | .wh c b,s=>isS s 7&&(chk c T (vs s).a&&chS T b (vs s).b)
 | .forU is c b,s=>isS s 8&&(chN T is (vs s).l&&(chk c T (vs s).a&&ord (vs s).a)&&chS T b (vs s).b)
 | .sx i as,s=>match T.sk[i]? with
  | some sh=>match sh s with
   | some es=>Ys as T es
   | none=>false
  | none=>false
 | .setC i c,s=>isS s 1&&(VN c&&(decide (T.N[i]?=some (vs s).x)&&decide (T.sc.names.lookup (vs s).x=some .local)&&chk c T (vs s).a&&((vs s).p.line==(vs s).a.pos.line)&& !((vw (vs s).a).s.names.any λz=>z.1==(vs s).x&&(z.2== .local||z.2== .cell))))
termination_by structural c=>c
noncomputable def chS(T:Tb):List S->List Stmt->Bool
 | [],ss=>ss.isEmpty
 | a::r,ss=>match ss with
  | s::ss=>ch1 T a s&&chS T r ss
  | []=>false
termination_by structural c=>c
end
theorem ps_mono{X:Cx}{s:Stmt}{t u:TS}(h:PS X s t)(k:∀D σ H,u D σ H->t D σ H):PS X s u:=λpins s σ H D I q=>h pins s σ H D I (k D σ H q)
structure SNodeOk(X:Cx)(sh:Stmt->Option (List Expr))(r:St->List V->Hp->(St->Hp->Prop)->Prop):Prop where
 ok:∀(s:Stmt)(es:List Expr)(ts:List TE),sh s=some es->PEs X es ts->PS X s (λD σ H=>Vx ts σ H λvs H1=>r σ vs H1 D.nx)
structure FitS(X:Cx)(T:Tb)(fs:List Rel)(ms:List Mr)(nr:List (48:))(sr:List (St->List V->Hp->(St->Hp->Prop)->Prop)):Prop where
 f:Fit X T fs ms nr
 nd:X.N.Nodup
 fn:∀x,X.fn x=true
 po:PassesOwn (3:) X.A X.env X.xe
 hx:∀(i:Nat) sh,T.sk[i]?=some sh->∃r,sr[i]?=some r/\SNodeOk X sh r
theorem SB{X:Cx}{T:Tb}{fs:List Rel}{ms:List Mr}{nr:List (48:)}(F:Fit X T fs ms nr){cap:List Nat}{x y:Str}{scope:Scope}{el:Expr}{gs:List Comprehension}{pos py sp:Pos}(h:Uw T cap x scope=true)(h2:T.sc.names.lookup y=some .local)(h3:(py.line==pos.line)=true)(h4:(!(scope.names.any λz=>z.1==y&&(z.2== .local||z.2== .cell)))=true):
 swapsWith (.ListComp el gs scope pos) (some (.Name y py)) sp.line X.env=pure true:=by
 unfold Uw at h;simp only [Bool.and_eq_true,decide_eq_true_eq]at h;have G:T.sc.kind=.function:=h.1.1.1.1.1.1.1.2;rw [F.hs]at G h2;have e1:X.env.blockKind=.function:=by unfold Env.blockKind;rw [G];rfl
 show(pure (X.env.blockKind== .function&&X.env.kindOf y==some .local&&py.line==pos.line&& !(scope.names.any λz=>z.1==y&&(z.2== .local||z.2== .cell))):Sem Bool)=pure true;rw [e1,h3,h4,show X.env.kindOf y=some .local from h2]
 rfl
def gsN:List Nat->TGs
 | []=>N7
 | i::is=>JP (Q3 i) (gsN is)
theorem Xu{H:Hp}{k:St->Hp->Prop}:∀{is:List Nat}{xs:List V}{σ:St},(Wm σ is xs λσ'=>k σ' H)->gsN is xs σ H k
 | [],[],σ,h=>⟨rfl,h⟩
 | i::is,x::xs,σ,h=>⟨x,xs,rfl,Xu (is:=is) (xs:=xs) (Zr h)⟩
 | [],_::_,_,h=>h.elim
 | _::_,[],_,h=>h.elim
theorem U4{k:St->Prop}:∀{is:List Nat}{xs:List V}{σ:St},Wm σ is xs k->xs.length=is.length
 | [],[],σ,h=>rfl
 | i::is,x::xs,σ,h=>congrArg (· +1) (U4 (is:=is) (xs:=xs) (Zr h))
 | [],_::_,_,h=>h.elim
 | _::_,[],_,h=>h.elim
theorem Mj{l:List Expr}{k n:Nat}{p:Pos}{e:Expr}{env:Env}(h:O3 e=true):swapsWithSole [.Tuple l k p] e n env=pure false/\swappedStores [.Tuple l k p] e env=pure none:=by
 cases e<;>first | exact⟨rfl,rfl⟩ | exact absurd (show false=true from h) Bool.false_ne_true
theorem PN:∀{c:C},VN c=true->(∃kd it cap elt,c=.comp kd it cap elt)\/∃kd it cap cnd elt,c=.compI kd it cap cnd elt:=λ{c} h=>by
 cases c<;>first | exact .inl ⟨_,_,_,_,rfl⟩ | exact .inr ⟨_,_,_,_,_,rfl⟩ | exact nomatch h
section
variable{X:Cx}{T:Tb}{fs:List Rel}{ms:List Mr}{nr:List (48:)}{sr:List (St->List V->Hp->(St->Hp->Prop)->Prop)}(F:FitS X T fs ms nr sr)
include F
theorem VW{i:Nat}{x:Str}{pos:Pos}(h:tgB T i x=true):PG X (.Name x pos) (Q3 i):=by
 obtain⟨h1,h2⟩:=b2 h;have h1:=of_decide_eq_true h1;rw [F.f.hN]at h1;rw [F.f.hs]at h2;exact Qw F.nd h1 (Mz h2) (.inl (F.fn x))
theorem Jg:∀(is:List Nat)(es:List Expr),chN T is es=true->PGs X es (gsN is)/\(assignEach es X.env).length=is.length/\(assignEach es X.env).findIdx? (·.1)=none
 | [],[],_=>⟨Zh,rfl,rfl⟩
 | i::is,e::es,h=>by
  obtain⟨h,G⟩:=b2 (show(G3.is e 1&&tgB T i (vw e).x&&chN T is es)=true from h);obtain⟨h1,h2⟩:=b2 h;obtain⟨J,L,U⟩:=Jg is es G;refine rb (P:=λe=>PGs X (e::es) (gsN (i::is))/\(assignEach (e::es) X.env).length=(i::is).length/\(assignEach (e::es) X.env).findIdx? (·.1)=none) h1 ⟨QA (VW F h2) J rfl,?_,?_⟩
  .show(assignEach es X.env).length+1=is.length+1;rw [L]
  .show((false,assign (.Name (vw e).x e.pos) X.env)::assignEach es X.env).findIdx? (·.1)=none;rw [List.findIdx?_cons];simp [U]
 | [],_::_,h=>nomatch h
 | _::_,[],h=>nomatch h
theorem Gx{i kd:Nat}{f:Expr->Bool}{el b:Expr}{ifs:List Expr}{x y:Str}{p pos py sp:Pos}{scope:Scope}{cap:List Nat}{tit te:TE}{tt:TT}(y1:decide (T.N[i]?=some y)=true)(y2:decide (T.sc.names.lookup y=some .local)=true)(y3:(py.line==pos.line)=true)(y4:(!(scope.names.any λz=>z.1==y&&(z.2== .local||z.2== .cell)))=true)(h1:Uw T cap x scope=true)(h:La kd f T b=true)(hf:∀e,f e=true->PE X e tit)
 (hel:∀cl C fp s₀ H₀,PE (59:) el te) (hc:∀cl C fp s₀ H₀,PF (59:) ifs tt):PS X (.Assign [.Name y py] (.ListComp el [⟨.Name x p,b,ifs,0⟩] scope pos) sp) (λD σ H=>tit σ H λv H1=>Nw X.K kd v (Wx cap σ) tt te H1 λx H1=>setS σ i x λσ'=>D.nx σ' H1):=λpins s σ H D I q=>by
 have y1:=of_decide_eq_true y1;have y2:=of_decide_eq_true y2;have G:=y2;rw [F.f.hN]at y1;rw [F.f.hs]at G;obtain⟨cl,O⟩:=Go F.f h1 λy J=>I.ok.has y (.inl J);obtain⟨Z,L,U,Y⟩:=Pi F.f (tg:=.Name x p) h hf;exact VQ O F.f.ca L (Z7 O) (λC fp s₀ H₀=>O8 (hc cl C fp s₀ H₀)) (λC fp s₀ H₀=>QO (hel cl C fp s₀ H₀)) F.nd y1 G (SB F.f h1 y2 y3 y4) U pins s σ H D I (Y _ _ _ _ _ _ _ (λ_ _ q=>Zr q) q)
theorem OW{i:Nat}{c:C}{y:Str}{e:Expr}{py sp:Pos}(hk:VN c=true)(y1:decide (T.N[i]?=some y)=true)(y2:decide (T.sc.names.lookup y=some .local)=true)(h:chk c T e=true)(y3:(py.line==e.pos.line)=true)(y4:(!((vw e).s.names.any λz=>z.1==y&&(z.2== .local||z.2== .cell)))=true):PS X (.Assign [.Name y py] e sp) (E1 (35:) (.setC i c)):=by
 rcases PN hk with⟨L,it,cap,G,rfl⟩ | ⟨L,it,cap,J,G,rfl⟩
 .obtain⟨U,h⟩:=b2 h;obtain⟨h,Y⟩:=b2 h;obtain⟨h1,h2⟩:=b2 h;exact rb (P:=λe=>PS X (.Assign [.Name y py] e sp) (E1 (35:) (.setC i (.comp L it cap G)))) U (Gx F y1 y2 y3 y4 h1 Y (λe h=>snd (sr:=sr) it F.f e h) (λcl C fp s₀ H₀=>snd (sr:=sr) G (F.f.inn _ _ cl C fp s₀ H₀) _ h2) λ_ _ _ _ _=>Q1)
 .obtain⟨U,h⟩:=b2 h;obtain⟨h,Y⟩:=b2 h;obtain⟨h,Z⟩:=b2 h;obtain⟨h1,h2⟩:=b2 h;exact rb (P:=λe=>PS X (.Assign [.Name y py] e sp) (E1 (35:) (.setC i (.compI L it cap J G)))) U (Gx F y1 y2 y3 y4 h1 Y (λe h=>snd (sr:=sr) it F.f e h) (λcl C fp s₀ H₀=>snd (sr:=sr) G (F.f.inn _ _ cl C fp s₀ H₀) _ h2) λcl C fp s₀ H₀=>Np (snt (sr:=sr) J (F.f.inn _ _ cl C fp s₀ H₀) _ Z))
mutual
theorem sn1:∀(c:S)(s:Stmt),ch1 T c s=true->PS X s (E1 (35:) c)
 | .set i c,s,h=>by
  obtain⟨G,h⟩:=b2 h;obtain⟨h,U⟩:=b2 h;obtain⟨h,h2⟩:=b2 h;obtain⟨h1,h4⟩:=b2 h;have h1:=of_decide_eq_true h1;rw [F.f.hN]at h1;rw [F.f.hs]at h4;exact rbS G λp=>ps_mono (Qz F.nd h1 (Mz h4) (QO (snd (sr:=sr) c F.f _ h2)) (WA U) (.inl (F.fn _))) λD σ H q=>⟨_,q,λx H1 q=>Zr q⟩
 | .ret c,s,h=>by
  obtain⟨G,h⟩:=b2 h;exact rbS G λp=>Ql (snd (sr:=sr) c F.f _ h)
 | .ex c,s,h=>by
  obtain⟨G,h⟩:=b2 h;obtain⟨h1,h2⟩:=b2 h;exact rbS G λp=>QL (snd (sr:=sr) c F.f _ h1) (WA h2)
 | .ite c a b,s,h=>by
  obtain⟨G,h⟩:=b2 h;obtain⟨h,U⟩:=b2 h;obtain⟨h1,h2⟩:=b2 h;exact rbS G λp=>ps_mono (QM (WC (snt (sr:=sr) c F.f _ h1)) (snS a _ h2) (snS b _ U)) λD σ H q=>⟨_,q,λx H1 q=>GJ q⟩
 | .forR i c b,s,h=>by
  obtain⟨G,h⟩:=b2 h;obtain⟨h,h7⟩:=b2 h;obtain⟨h1,h⟩:=b2 h;obtain⟨h2,h⟩:=b2 (show(is (vs s).a 8&&_)=true from h);obtain⟨h,L⟩:=b2 h;obtain⟨h,Y⟩:=b2 h;obtain⟨h,h4⟩:=b2 h;obtain⟨U,h8⟩:=b2 h;have U:=of_decide_eq_true U;rw [F.f.hs,U]at h8;refine rbS G λp=>rb (P:=λe=>PS X (.For (.Name (vs s).x (vs s).p) e (vs s).b [] p) (E1 (35:) (.forR i c b))) h2 ?_;show PS X (.For _ (.Call (.Name (vw (vs s).a).x (vw (vs s).a).p) ((vw (vs s).a).a::(vw (vs s).a).l) [] (vs s).a.pos) _ [] p) _;rw [U,MY h4];refine ps_mono (QX F.po F.f.ca (ZM (MA h8) F.f.rg (Qa (QO (snd (sr:=sr) c F.f _ Y)) Qe (Zd L)) (Zd L)) (VW F h1) (snS b _ h7)) λD σ H q=>(86:);cases x with
  | int j=>
   obtain⟨hr,q⟩:=q;refine⟨j,rfl,hr.1,hr.2,?_⟩;cases q with
   | f Z G hs hd=>exact J8 (lo:=0) Z G (λj σ H hj hp=>by rw [Int.zero_add];exact Zr (hs j σ H hj hp)) hd
  | _=>exact False.elim q
 | .forL i c b,s,h=>by
  obtain⟨G,h⟩:=b2 h;obtain⟨h,h7⟩:=b2 h;obtain⟨h1,h⟩:=b2 h;obtain⟨Y,L⟩:=b2 h;refine rbS G λp=>ps_mono (QX F.po F.f.ca (QG (QO (snd (sr:=sr) c F.f _ Y))) (VW F h1) (snS b _ h7) (Z4 L)) λD σ H q=>(86:);cases x with
  | ref a=>
   cases q with
   | f ys Z G hl hs hd=>exact⟨a,rfl,⟨ys,hl 0 _ _ (Nat.zero_le _) G⟩,ZJ Z G hl (λj x σ H hj hp=>Zr (hs j x σ H hj hp)) hd⟩
  | _=>exact False.elim q
 | .forT i c b,s,h=>by
  obtain⟨G,h⟩:=b2 h;obtain⟨h,h7⟩:=b2 h;obtain⟨h1,h⟩:=b2 h;obtain⟨Y,L⟩:=b2 h;refine rbS G λp=>ps_mono (QX F.po F.f.ca (Ub (QO (snd (sr:=sr) c F.f _ Y))) (VW F h1) (snS b _ h7) (Z4 L)) λD σ H q=>(86:);cases x with
  | ref a=>
   cases q with
   | f ys Z G hl hs hd=>exact⟨a,rfl,⟨ys,hl 0 _ _ (Nat.zero_le _) G⟩,XH Z G hl (λj x σ H hj hp=>Zr (hs j x σ H hj hp)) hd⟩
  | _=>exact False.elim q
 | .cut a,s,h=>ps_mono (MK (sn1 a s h)) λD σ H q=>by
  cases q with
  | c R h k=>exact⟨R,h,k⟩
 | .unp is c,s,h=>by
  obtain⟨G,h⟩:=b2 h;obtain⟨h,L⟩:=b2 h;obtain⟨h,Y⟩:=b2 h;obtain⟨h1,h2,U⟩:=Jg F is _ h;refine rbS G λp=>ps_mono (VB (QO (snd (sr:=sr) c F.f _ Y)) (ZA (X:=X) F.f.ca h1 h2 U) (Mj L).1 (Mj (n:=0) L).2 rfl) λD σ H q=>(86:);cases x with
  | ref a=>
   cases q with
   | u xs hx k=>exact⟨a,xs,rfl,hx,U4 k,Xu k⟩
  | _=>exact False.elim q
 | .wh c b,s,h=>by
  obtain⟨G,h⟩:=b2 h;obtain⟨h1,h2⟩:=b2 h;refine rbS G λp=>ps_mono (U5 F.po (WC (snt (sr:=sr) c F.f _ h1)) (snS b _ h2)) λD σ H q=>?_;cases q with
  | w J m G hs=>exact⟨J,⟨m,G⟩,λm σ H p=>⟨_,hs m σ H p,λb H1 q=>by
   cases b with
   | true=>exact Zk ⟨_,λad H' h=>h,q⟩
   | false=>exact Zn q⟩⟩
 | .forU is c b,s,h=>by
  obtain⟨G,h⟩:=b2 h;obtain⟨h,h7⟩:=b2 h;obtain⟨h1,h⟩:=b2 h;obtain⟨Y,L⟩:=b2 h;obtain⟨n1,n2,n3⟩:=Jg F is _ h1;refine rbS G λp=>ps_mono (QX F.po F.f.ca (QG (QO (snd (sr:=sr) c F.f _ Y))) (ZA (X:=X) F.f.ca n1 n2 n3) (snS b _ h7) (Z4 L)) λD σ H q=>(86:);cases x with
  | ref a=>
   cases q with
   | f ys Z G hl hs hd=>exact⟨a,rfl,⟨ys,hl 0 _ _ (Nat.zero_le _) G⟩,ZJ Z G hl (λj x σ H hj hp=>by
    obtain⟨b',zs,e,hz,k⟩:=hs j x σ H hj hp;exact⟨b',zs,e,hz,U4 k,Xu (k:=λac H2=>ES (35:) b { D with nx:=Z (j+1),ct:=Z (j+1),bk:=D.nx } ac H2) k⟩) hd⟩
  | _=>exact False.elim q
 | .sx i as,s,h=>by
  have h:(match T.sk[i]? with
   | some sh=>match sh s with
    | some es=>Ys as T es
    | none=>false
   | none=>false)=true:=h
  split at h
  .rename_i sh aa;obtain⟨r,e1,e2⟩:=F.hx _ _ aa;split at h
   .rename_i es ab;refine ps_mono (e2.ok s es _ ab (OS (sr:=sr) as F.f _ h)) λD σ H q=>?_;have q:Es (35:) as σ H λvs H1=>match sr[i]? with | some r=>r σ vs H1 D.nx | none=>False:=q
    rw [e1]at q;exact(XL as).mp q
   .cases h
  .cases h
 | .setC i c,s,h=>by
  obtain⟨G,h⟩:=b2 h;obtain⟨hk,h⟩:=b2 h;obtain⟨h,y4⟩:=b2 h;obtain⟨h,y3⟩:=b2 h;obtain⟨h,h1⟩:=b2 h;exact rbS G λp=>OW F hk (b2 h).1 (b2 h).2 h1 y3 y4
theorem snS:∀(as:List S)(ss:List Stmt),chS T as ss=true->PSs X ss (ES (35:) as)
 | [],[],h=>Qr
 | [],_::_,h=>nomatch h
 | _::_,[],h=>nomatch h
 | a::r,s::ss,h=>by
  obtain⟨h1,h2⟩:=b2 (show(ch1 T a s&&chS T r ss)=true from h);exact Qh (sn1 a _ h1) (snS r _ h2)
end
end
end G3
namespace G3
open PySem L2
inductive TupOf(K:Fg)(p:Addr)(H:Hp)(Q:VK):Prop where
 | l (ys:List V) (h:SqL K H p ys) (k:∀l H',Same H H'->SqT K H' l ys->Q (.ref l) H'):TupOf K p H Q
def rTupOf(K:Fg)(vs:List V)(H:Hp)(Q:VK):Prop:=match vs with
 | [.ref p]=>TupOf K p H Q
 | _=>False
section
variable{X:Cx}
theorem call_tupOf:QR X (.type "tuple") (rTupOf X.K):=by
 intro pins s σ H xs G Q I r h;unfold rTupOf at h;split at h
 .cases h with
  | l ys J k=>exact Zz pins s σ H _ G Q I r ⟨_,ys,rfl,.inl ⟨J,λl L=>k l _ (Qc L _) (SqT.of Qb)⟩⟩
 .exact h.elim
theorem CallOk.blt{x:Str}{id:String}{r:List V->Hp->VK->Prop}(hc:QR X (.builtin id) r)(hm:X.mg x=none)(hv:bootBuiltins x=some (.builtin id))(hn:x≠"__name__":=by decide):CallOk X x (λ_ vs H Q=>r vs H Q):=
 ⟨λp pos e es t G J L U hp=>Qq hc J hm hv G hn L U hp⟩
theorem CallOk.ty{x:Str}{T:String}{r:List V->Hp->VK->Prop}(hc:QR X (.type T) r)(hm:X.mg x=none)(hv:bootBuiltins x=some (.type T))(hn:x≠"__name__":=by decide):CallOk X x (λ_ vs H Q=>r vs H Q):=
 ⟨λp pos e es t G J L U hp=>QI hc J hm hv G hn L U hp⟩
end
end G3
namespace G3
open PySem L2
def shCmp(op:CmpOp):Expr->Option (List Expr)
 | .Compare a [o] [b] _=>if decide (o=op)&& !(behindInMarks op b)then some [a,b]else none
 | _=>none
def shIx:Expr->Option (List Expr)
 | .Subscript a b _=>if ord b then some [a,b]else none
 | _=>none
def shSlTo:Expr->Option (List Expr)
 | .Subscript a (.Slice none (some h) none _) _=>some [a,h]
 | _=>none
def on2(r:R2):List V->Hp->VK->Prop:=λvs H Q=>match vs with
 | [x,y]=>r x y H Q
 | _=>False
section
variable{X:Cx}
theorem PEs.two{a b:Expr}{ts:List TE}(h:PEs X [a,b] ts):∃t u,ts=[t,u]/\PE X a t/\PE X b u:=by
 cases h with
 | cons h1 h=>cases h with
  | cons h2 h=>cases h with
   | nil=>exact⟨_,_,rfl,h1,h2⟩
theorem NodeOk.plain{sh:Expr->Option (List Expr)}{r:List V->Hp->VK->Prop}(h:∀(e:Expr)(es:List Expr)(ts:List TE),sh e=some es->PEs X es ts->PE X e (λσ H Q=>Vx ts σ H λvs H1=>r vs H1 Q)/\tst e=true):NodeOk X sh r:=
 ⟨λe es ts G hp=>(h e es ts G hp).1,λe es ts G hp=>(pvT (h e es ts G hp).1 (h e es ts G hp).2).2⟩
theorem NodeOk.cmp{op:CmpOp}{r:R2}(ho:OpR X (compareOp op) r):NodeOk X (shCmp op) (on2 r):=by
 have J:∀(e:Expr)(es:List Expr),shCmp op e=some es->∃a b p,e=.Compare a [op] [b] p/\es=[a,b]/\behindInMarks op b=false:=λe es G=>by
  unfold shCmp at G;split at G
  .split at G
   .rename_i L;cases G;rw [Bool.and_eq_true]at L;rw [of_decide_eq_true L.1];exact⟨_,_,_,rfl,rfl,by simpa using L.2⟩
   .cases G
  .cases G
 refine⟨λe es Y G h=>?_,λe es Y G h=>?_⟩
 .obtain⟨a,b,p,rfl,rfl,U⟩:=J e es G;obtain⟨t,u,rfl,h1,h2⟩:=h.two;exact YG ho h1 h2 U
 .obtain⟨a,b,p,rfl,rfl,U⟩:=J e es G;obtain⟨t,u,rfl,h1,h2⟩:=h.two;exact Yi (QC (Mi ho) (QO h1) (QO h2) U) λσ H Q q=>⟨_,q,λx H1 q=>⟨_,q,λy H2 q=>⟨_,q,λz Z q=>Ud q⟩⟩⟩
def asI(x:V)(k:Int->Prop):Prop:=match x with
 | .int i=>k i
 | _=>False
theorem PB{x:V}{k:Int->Prop}(h:asI x k):∃i,x=.int i/\k i:=by
 unfold asI at h;split at h
 .exact⟨_,rfl,h⟩
 .exact h.elim
theorem NodeOk.slTo{r:V->Option Int->Option Int->Hp->VK->Prop}(hr:SlR X r):NodeOk X shSlTo (on2 λx y H Q=>asI y λi=>r x none (some i) H Q):=.plain λe es J G h=>by
 unfold shSlTo at G;split at G
 .cases G;obtain⟨t,u,rfl,h1,h2⟩:=h.two;exact⟨QW (UV hr (QO h1) Xs (XB (QO h2))) λσ H Q q=>⟨_,q,λx H1 q=>⟨_,q,λy H2 q=>PB q⟩⟩,rfl⟩
 .cases G
end
end G3
namespace G3
open PySem L2
structure Cxt(X:Cx)(P:Program)(w:World)(K:Fg)(mg:Str->Option Value)(base:Heap)(k:Nat):Prop where
 p:X.prog=P
 w:X.w=w
 K:X.K=K
 m:X.mg=mg
 b:X.base=base
 r:Room k X.A
 c:X.calm=true
inductive Calls(X:Cx):List Str->List Rel->Prop where
 | nil:Calls X [] []
 | cons {x:Str} {r:Rel} {xs:List Str} {rs:List Rel}:CallOk X x r->Calls X xs rs->Calls X (x::xs) (r::rs)
inductive Meths(X:Cx):List Str->List Mr->Prop where
 | nil:Meths X [] []
 | cons {x:Str} {r:Mr} {xs:List Str} {rs:List Mr}:MethOk X x r->Meths X xs rs->Meths X (x::xs) (r::rs)
inductive Nodes(X:Cx):List (Expr->Option (List Expr))->List (48:)->Prop where
 | nil:Nodes X [] []
 | cons {x:Expr->Option (List Expr)} {r:List V->Hp->VK->Prop} {xs:List (Expr->Option (List Expr))} {rs:List (48:)}:NodeOk X x r->Nodes X xs rs->Nodes X (x::xs) (r::rs)
theorem Calls.at{X:Cx}:∀{xs:List Str}{rs:List Rel},Calls X xs rs->∀(i:Nat) y,xs[i]?=some y->∃r,rs[i]?=some r/\CallOk X y r
 | _,_,.nil,i,y,e=>by simp at e
 | _,_,.cons h _,0,y,e=>by cases e;exact⟨_,rfl,h⟩
 | _,_,.cons _ h,i+1,y,e=>h.at i y e
theorem Meths.at{X:Cx}:∀{xs:List Str}{rs:List Mr},Meths X xs rs->∀(i:Nat) y,xs[i]?=some y->∃r,rs[i]?=some r/\MethOk X y r
 | _,_,.nil,i,y,e=>by simp at e
 | _,_,.cons h _,0,y,e=>by cases e;exact⟨_,rfl,h⟩
 | _,_,.cons _ h,i+1,y,e=>h.at i y e
theorem Nodes.at{X:Cx}:∀{xs:List (Expr->Option (List Expr))}{rs:List (48:)},Nodes X xs rs->∀(i:Nat) y,xs[i]?=some y->∃r,rs[i]?=some r/\NodeOk X y r
 | _,_,.nil,i,y,e=>by simp at e
 | _,_,.cons h _,0,y,e=>by cases e;exact⟨_,rfl,h⟩
 | _,_,.cons _ h,i+1,y,e=>h.at i y e
section
variable{X:Cx}{P:Program}{w:World}{K:Fg}{mg:Str->Option Value}{base:Heap}{k:Nat}
theorem Cxt.fn(c:Cxt X P w K mg base k){j:Nat}{x:Str}{ps:List Str}{sp:Sp}(F:Fn P w K mg base j x ps sp)(hk:j<=k:=by decide):CallOk X x (λ_ vs H Q=>sp vs H Q E0):=by
 obtain⟨rfl,rfl,rfl,rfl,rfl,G,J⟩:=c;exact .fn F G hk
theorem Cxt.ty(c:Cxt X P w K mg base k){x:Str}{T:String}{r:Fg->List V->Hp->VK->Prop}(hc:∀X:Cx,QR X (.type T) (r X.K))(hm:mg x=none)(hv:bootBuiltins x=some (.type T))(hn:x≠"__name__":=by decide):CallOk X x (λ_ vs H Q=>r K vs H Q):=by
 obtain⟨rfl,rfl,rfl,rfl,rfl,J,G⟩:=c;exact .ty (hc X) hm hv hn
theorem Cxt.blt(c:Cxt X P w K mg base k){x:Str}{id:String}{r:Fg->List V->Hp->VK->Prop}(hc:∀X:Cx,QR X (.builtin id) (r X.K))(hm:mg x=none)(hv:bootBuiltins x=some (.builtin id))(hn:x≠"__name__":=by decide):CallOk X x (λ_ vs H Q=>r K vs H Q):=by
 obtain⟨rfl,rfl,rfl,rfl,rfl,J,G⟩:=c;exact .blt (hc X) hm hv hn
theorem Cxt.meth(c:Cxt X P w K mg base k){x:Str}{r:Fg->Mr}(h:∀X:Cx,MethOk X x (r X.K)):MethOk X x (r K):=by
 obtain⟨rfl,rfl,rfl,rfl,rfl,J,G⟩:=c;exact h X
theorem Cxt.node(c:Cxt X P w K mg base k){sh:Expr->Option (List Expr)}{r:Fg->List V->Hp->VK->Prop}(h:∀X:Cx,NodeOk X sh (r X.K)):NodeOk X sh (r K):=by
 obtain⟨rfl,rfl,rfl,rfl,rfl,J,G⟩:=c;exact h X
end
section
variable{X:Cx}{P:Program}{w:World}{K:Fg}{mg:Str->Option Value}{base:Heap}{k:Nat}
theorem Cxt.tyC(c:Cxt X P w K mg base k){x:Str}{T:String}{r:Fg->List V->Hp->VK->Prop}(hc:∀X:Cx,X.calm=true->QR X (.type T) (r X.K))(hm:mg x=none)(hv:bootBuiltins x=some (.type T))(hn:x≠"__name__":=by decide):CallOk X x (λ_ vs H Q=>r K vs H Q):=by
 obtain⟨rfl,rfl,rfl,rfl,rfl,J,G⟩:=c;exact .ty (hc X G) hm hv hn
theorem Cxt.nodeR(c:Cxt X P w K mg base k){sh:Expr->Option (List Expr)}{r:Fg->List V->Hp->VK->Prop}(h:∀X:Cx,Room k X.A->NodeOk X sh (r X.K)):NodeOk X sh (r K):=by
 obtain⟨rfl,rfl,rfl,rfl,rfl,G,J⟩:=c;exact h X G
end
theorem Fun.okC{P:Program}{w:World}{K:Fg}{mg:Str->Option Value}{base:Heap}{x qual:Str}{st:Stmt}{f:Addr}{fd:FuncData}{N ps fn mt:List Str}{nk:List (Expr->Option (List Expr))}{k:Nat}{sp:Sp}(F:Fun K x qual st f fd)(S:FnScope N ps (52:))(n:En)(c:List G3.S)
 (hcx:∀X:Cx,Cxt X P w K mg base k->Calls X fn n.fs/\Meths X mt n.ms/\Nodes X nk n.nr)
 (len:∀vs H Q E,sp vs H Q E->vs.length=ps.length)
 (hb:∀(H:Hp)(vs:List V)(Q:VK)(E:XK),sp vs H Q E->ES n c { nx:=λ_ H'=>Q .non H',rt:=Q } (ZH N vs) H)
 (hm:mg "range"=none) (hc:chS ⟨N,defScope st,fn,mt,nk,[]⟩ c (83:)=true:=by decide+kernel) (hn:n.K=K:=by rfl):FnOk P w K mg base CX0 (k+1) f fd ps sp:=by
 obtain⟨J,fs,ms,nr,sr⟩:=n;have hn:J=K:=hn;subst hn;exact F.ok S len λL A outer s H vs Q E G h=>⟨_,snS (X:=(Qn CX0 P w J mg base N qual (52:) f L A outer s H E).nox) (fs:=fs) (ms:=ms) (nr:=nr) (sr:=sr) ⟨⟨rfl,rfl,λX f i y e=>(hcx X (49:)).1.at i y e,λX f i y e=>(hcx X (49:)).2.1.at i y e,λX f i y e=>(hcx X (49:)).2.2.at i y e,rfl,hm⟩,S.nd,λ_=>rfl,PassesOwn.never,λi y e=>by simp at e⟩ c _ hc,hb H vs Q E h⟩
inductive EqD(K:Fg)(neg:Bool)(x y:V)(H:Hp)(Q:VK):Prop where
 | e (d e:PyData) (h1:RdV K H x d) (h2:RdV K H y e) (c1:d.canLay0=true) (c2:e.canLay0=true) (hu:min d.depth e.depth<=190) (q:Q (.bl (if neg then !PyData.eqv d e else PyData.eqv d e)) H):EqD K neg x y H Q
theorem Cxt.eqD{X:Cx}{P:Program}{w:World}{K:Fg}{mg:Str->Option Value}{base:Heap}{k:Nat}(c:Cxt X P w K mg base k):NodeOk X (shCmp .Eq) (on2 (EqD K false)):=by
 obtain⟨rfl,rfl,rfl,rfl,rfl,G,Z⟩:=c;refine .cmp λpins s σ H x y v u Q I J L h=>?_;cases h with
 | e d e h1 h2 U Y hu q=>exact Sf pins s σ H x y v u Q I J L ⟨d,e,h1,h2,U,Y,by have:=G.un;lia,q⟩
theorem Cxt.neD{X:Cx}{P:Program}{w:World}{K:Fg}{mg:Str->Option Value}{base:Heap}{k:Nat}(c:Cxt X P w K mg base k):NodeOk X (shCmp .NotEq) (on2 (EqD K true)):=by
 obtain⟨rfl,rfl,rfl,rfl,rfl,G,Z⟩:=c;refine .cmp λpins s σ H x y v u Q I J L h=>?_;cases h with
 | e d e h1 h2 U Y hu q=>exact L7 pins s σ H x y v u Q I J L ⟨d,e,h1,h2,U,Y,by have:=G.un;lia,q⟩
inductive Len(K:Fg)(p:Addr)(H:Hp)(Q:VK):Prop where
 | l (ys:List V) (h:SqL K H p ys) (k:Q (.int ys.length) H):Len K p H Q
 | t (ys:List V) (h:SqT K H p ys) (k:Q (.int ys.length) H):Len K p H Q
def rLen(K:Fg)(vs:List V)(H:Hp)(Q:VK):Prop:=match vs with
 | [.ref p]=>Len K p H Q
 | _=>False
theorem call_len(X:Cx):QR X (.builtin "len") (rLen X.K):=by
 intro pins s σ H xs J Q I r h;unfold rLen at h;split at h
 .cases h with
  | l ys G k=>exact Qs pins s σ H _ J Q I r ⟨_,ys,rfl,.inl G,k⟩
  | t ys G k=>exact Qs pins s σ H _ J Q I r ⟨_,ys,rfl,.inr G,k⟩
 .exact h.elim
end G3
namespace G3
open PySem L2
def rInt(_:Fg)(vs:List V)(H:Hp)(Q:VK):Prop:=match vs with
 | [.int i]=>Q (.int i) H
 | [.bl b]=>Q (.int (if b then 1 else 0)) H
 | _=>False
theorem call_int(X:Cx):QR X (.type "int") (rInt X.K):=by
 intro pins s σ H xs G Q I r h;unfold rInt at h;split at h
 .exact JQ pins s σ H _ G Q I r (.inl ⟨_,rfl,h⟩)
 .exact JQ pins s σ H _ G Q I r (.inr ⟨_,rfl,h⟩)
 .exact h.elim
def mApp(K:Fg):Mr:=⟨tyV K "list",Gh⟩
theorem m_append(X:Cx):MethOk X "append" (mApp X.K):=.bm PySem.F.plainAttrs_list PySem.F.slot_list_append PySem.F.type_list_append ZG
theorem tyL{K:Fg}{l:Addr}{xs:List V}{H:Hp}(h:H l=some (.lst xs)):tyV K "list" (.ref l) H:=.inl ⟨rfl,xs,SqL.of h⟩
end G3
namespace K65
open PySem L2 TM TT K9 K11
abbrev Ow:=Str×Str
def Pj(K:Fg)(H:Hp)(l:Addr)(os:List Ow):Prop:=∃ps:List Addr,SqL K H l (ps.map V.ref)/\ps.length=os.length/\∀(i:Nat) p o,ps[i]?=some p->os[i]?=some o->SqT K H p [.str o.1,.str o.2]
abbrev Cl:=Nat×Nat×Str
inductive ClAll(K:Fg)(H:Hp):List V->List Cl->Prop where
 | nil:ClAll K H [] []
 | cons {p:Addr} {c:Cl} {vs:List V} {cs:List Cl}:SqT K H p [.int (c.1:Int),.int (c.2.1:Int),.str c.2.2]->ClAll K H vs cs->ClAll K H (.ref p::vs) (c::cs)
theorem ClAll.mono{K:Fg}{H H':Hp}(k:∀a xs,SqT K H a xs->SqT K H' a xs):∀{vs:List V}{cs:List Cl},ClAll K H vs cs->ClAll K H' vs cs
 | _,_,.nil=>.nil
 | _,_,.cons h r=>.cons (k _ _ h) (r.mono k)
theorem ClAll.snoc{K:Fg}{H:Hp}{p:Addr}{c:Cl}(h:SqT K H p [.int (c.1:Int),.int (c.2.1:Int),.str c.2.2]):∀{vs:List V}{cs:List Cl},ClAll K H vs cs->ClAll K H (vs++[.ref p]) (cs++[c])
 | _,_,.nil=>.cons h .nil
 | _,_,.cons h' r=>.cons h' (r.snoc h)
theorem ClAll.len{K:Fg}{H:Hp}:∀{vs:List V}{cs:List Cl},ClAll K H vs cs->vs.length=cs.length
 | _,_,.nil=>rfl
 | _,_,.cons _ r=>congrArg (· +1) r.len
def ClOk(bs:List Str)(os:List Ow)(c:Cl):Prop:=∃o,os[c.1]?=some o/\bs[c.2.1]?=some o.1/\c.2.2=o.2
def UM(K:Fg):Sp:=λvs H Q _=>∃(b o:Addr)(bs:List Str)(os:List Ow),vs=[.ref b,.ref o]/\SqT K H b (bs.map V.str)/\Pj K H o os/\bs.length<=10/\os.length<=10/\
 ∀(l:Addr)(vs':List V)(cs:List Cl)(H':Hp),Same H H'->H' l=some (.lst vs')->ClAll K H' vs' cs->(∀c∈cs,ClOk bs os c)->cs.length<=bs.length*os.length->Q (.ref l) H'
def PK:List G3.S:=[.set 2 (.lst []),.forR 3 (.call 0 [.v 0]) [.forR 4 (.call 0 [.v 1]) [.ite (.cmp .Eq (.ix (.ix (.v 1) (.v 4)) (78:)) (.ix (.v 0) (.v 3))) [.ex (.meth 0 (.v 2) [.tup [.v 4,.v 3,.ix (.ix (.v 1) (.v 4)) (56:)]])] []]],.ret (.v 2)]
def Rq(K:Fg):G3.En:=⟨K,[λ_ vs H Q=>G3.rLen K vs H Q],[G3.mApp K],[],[]⟩
section
variable{P:Program}{w:World}{K:Fg}{mg:Str->Option Value}{base:Heap}{f:Addr}{fd:FuncData}
theorem OB:FnScope ["_law_branches","_law_owners","_law_calls_here","_law_branch","_law_mode"] ["_law_branches","_law_owners"] (defScope Vn):=(0:)
theorem Mn(F:Fun K "_law_calls" "_law_calls" Vn f fd)(G:Gm mg):FnOk P w K mg base CX0 1 f fd ["_law_branches","_law_owners"] (UM K):=by
 refine G3.Fun.okC F OB (Rq K) PK (λX c=>⟨.cons (96:) .nil,.cons (c.meth G3.m_append) .nil,.nil⟩) (11:) (λH vs Q E h=>?_) G.rng
 .obtain⟨b,o,bs,os,rfl,_⟩:=h
  rfl
 obtain⟨b,o,bs,os,rfl,hb,⟨ps,hl,ak,hp⟩,lb,lo,q⟩:=h;refine⟨λl H0 g0 e0 n0=>.t _ (g0.seqT hb) ⟨⟨by rw [List.length_map];lia,by rw [List.length_map];lia⟩,?_⟩⟩;rw [List.length_map,Int.toNat_natCast];refine .f (λi σ H'=>∃c3 c4 J cs,σ=[some (.ref b),some (.ref o),some (.ref l),c3,c4]/\Same H H'/\H' l=some (.lst J)/\ClAll K H' J cs/\(∀c∈cs,ClOk bs os c)/\cs.length<=i*os.length) ⟨none,none,[],[],rfl,g0,e0,.nil,λc hc=>(nomatch hc),Nat.zero_le _⟩ ?_ ?_
 .rintro i _ H1 hi ⟨c3,c4,ab,ac,rfl,g1,e1,ad,ae,l1⟩;refine .l _ (g1.seq hl) ⟨⟨by rw [List.length_map];lia,by rw [List.length_map];lia⟩,?_⟩;rw [List.length_map,Int.toNat_natCast];refine .f (λj σ H'=>∃c4 J cs,σ=[some (.ref b),some (.ref o),some (.ref l),some (.int (i:Int)),c4]/\Same H H'/\H' l=some (.lst J)/\ClAll K H' J cs/\(∀c∈cs,ClOk bs os c)/\cs.length<=i*os.length+j) ⟨c4,ab,ac,rfl,g1,e1,ad,ae,l1⟩ ?_ ?_
  .rintro j _ H2 hj ⟨aj,Z,L,rfl,U,e2,Y,aa,l2⟩;obtain⟨p,af⟩: ∃p,ps[j]?=some p:=(41:);obtain⟨ow,ag⟩: ∃ow,os[j]?=some ow:=(41:);obtain⟨br,ah⟩: ∃br,bs[i]?=some br:=⟨_,List.getElem?_eq_getElem hi⟩;have ai:=U.seqT (hp j p ow af ag);have a1:atI (ps.map V.ref) (j:Int)=some (.ref p):=Qo (by rw [List.getElem?_map,af];rfl);have a2:atI (bs.map V.str) (i:Int)=some (.str br):=Qo (by rw [List.getElem?_map,ah];rfl);refine .l _ _ (U.seq hl) a1<| .t _ _ ai rfl<| .t _ _ (U.seqT hb) a2<|G3.iteI (λz=>?_) λz=>⟨_,Z,L,rfl,U,e2,Y,aa,by lia⟩;refine⟨G3.tyL e2,.l _ _ (U.seq hl) a1<| .t _ _ ai rfl ⟨λpt H3 k3 d3 _=>⟨l,Z,_,rfl,rfl,k3 _ _ e2,?_,?_⟩⟩⟩
   .rw [Y.len,show sizeLine=16777216 by decide];have:(i:Nat)*os.length<=10*10:=Nat.mul_le_mul (6:) lo;lia
   .refine⟨_,_,L++[(j,i,ow.2)],rfl,λa u e=>?_,Qb,ClAll.snoc (c:=(j,i,ow.2)) (SqT.put d3 (k3 _ _ e2)) (Y.mono λ_ _ h=>SqT.put (k3.seqT h) (k3 _ _ e2)),λc hc=>?_,by rw [List.length_append];show L.length+1<=_;lia⟩
    .rw [Qg (Qd e n0)];exact k3 _ _ (U _ _ e)
    .rcases List.mem_append.mp hc with z' | z'
     .exact aa c z'
     .rw [List.mem_singleton.mp z'];exact⟨ow,ag,by rw [ah,z],rfl⟩
  .rintro _ H2 ⟨aj,Z,L,rfl,U,e2,Y,aa,l2⟩;exact⟨_,_,Z,L,rfl,U,e2,Y,aa,by rw [Nat.succ_mul];lia⟩
 .rintro _ H1 ⟨c3,c4,ab,ac,rfl,g1,e1,ad,ae,l1⟩;exact q l ab ac H1 g1 e1 ad ae l1
end
end K65
namespace K65
open PySem L2 TM TT K9 K11
theorem TpAll.at{K:Fg}{H:Hp}:∀{vs:List V}{ts:List TP},TpAll K H vs ts->∀(i:Nat) v,vs[i]?=some v->∃t,ts[i]?=some t/\TpV K H v t
 | _,_,.nil,i,v,e=>by simp at e
 | _,_,.cons h _,0,v,e=>by cases e;exact⟨_,rfl,h⟩
 | _,_,.cons _ h,i+1,v,e=>TpAll.at h i v e
theorem Ms{α:Type}:∀{ts:List (Tree α)}{i:Nat}{t:Tree α},ts[i]?=some t->lv t<=lvs ts
 | [],i,t,h=>by simp at h
 | a::r,0,t,h=>by cases h;rw [lvs];lia
 | a::r,i+1,t,h=>by have:=Ms (ts:=r) (i:=i) h;rw [lvs];lia
def ZU(K:Fg)(n:Nat):Sp:=λvs H Q _=>∃(v:V)(t:TP),vs=[v]/\TpV K H v t/\lv t<=n/\Q (.int (sz t:Nat)) H
def Rx:List G3.S:=[.ite (.cmp .Eq (.ix (.v 0) (78:)) (.k (.str "call"))) [.ret (56:)] [],.set 1 (56:),.forT 2 (.ix (.v 0) (.k (.int 4))) [.set 1 (.bin .Add (.v 1) (.call 0 [.v 2]))],.ret (.v 1)]
def Rn(K:Fg)(n:Nat):G3.En:=⟨K,[λ_ vs H Q=>ZU K n vs H Q E0],[],[],[]⟩
section
variable{P:Program}{w:World}{K:Fg}{mg:Str->Option Value}{base:Heap}{f:Addr}{fd:FuncData}
theorem OL:FnScope ["_law_term","_law_total","_law_part"] ["_law_term"] (defScope UY):=(0:)
theorem MO{n:Nat}(F:Fun K "_law_count" "_law_count" UY f fd)(G:Gm mg)(R:Fn P w K mg base (n+1) "_law_count" ["_law_term"] (ZU K n)):FnOk P w K mg base CX0 (n+2) f fd ["_law_term"] (ZU K (n+1)):=by
 refine G3.Fun.okC F OL (Rn K n) Rx (λX c=>⟨.cons (c.fn R (7:)) .nil,.nil,.nil⟩) (11:) (λH vs Q E h=>?_) G.rng
 .obtain⟨v,t,rfl,_⟩:=h
  rfl
 obtain⟨v,t,rfl,hv,hl,q⟩:=h;cases hv with
 | call h1 h2=>
  rw [WD]at q;exact .t _ _ h1 rfl q
 | @put a b ws J nm k ad h1 h2 U h4=>
  refine .t _ _ h1 rfl<| .t _ _ h1 rfl<| .f ws (λi σ H'=>H'=H/\∃L,σ=[some (.ref a),some (.int ((1+szs (J.take i):Nat):Int)),L]) ⟨rfl,none,by simp [szs]⟩ (λi σ H' _ h=>h.1 ▸ h2) ?_ ?_
  .rintro i x _ _ hx ⟨rfl,L,rfl⟩;obtain⟨t,Y,Z⟩:=TpAll.at U i x hx;have aa:=Ms Y;rw [Q8]at hl;refine⟨x,t,rfl,Z,by show lv t<=n;have:lvs (Tree.bs (.node (LP.put nm k ad) 0 J))=lvs J:=rfl;lia,rfl,some x,?_⟩;rw [List.take_add_one,Y,UL];show [_,some (V.int (((1+szs (J.take i):Nat):Int)+((sz t:Nat):Int))),_]=[_,some (V.int (((1+(szs (J.take i)+szs [t]):Nat):Int))),_];have:szs [t]=sz t:=by simp [szs]
   rw [this]
   congr 4
   lia
  .rintro _ _ ⟨rfl,L,rfl⟩;have e:=U.length;rw [List.take_of_length_le (6:)];rw [WD]at q;exact q
theorem JX(F:Fun K "_law_count" "_law_count" UY f fd)(G:Gm mg)(hb:Binds K fd ["_law_term"] [])(hm:mg "_law_count"=some (82:)):∀n:Nat,FnOk P w K mg base CX0 (n+1) f fd ["_law_term"] (ZU K n)
 | 0=>⟨λvs H Q E h=>by obtain⟨v,t,rfl,_⟩:=h;rfl,λA outer s H J U vs Q E _ _ _ _ h=>by obtain⟨v,t,_,_,L,_⟩:=h;rw [Q8]at L;lia⟩
 | n+1=>MO F G ⟨f,fd,JX F G hb hm n,hb,F.kp,hm⟩
end
end K65
namespace K65
open PySem L2 TM TT K9 K11
def U3(K:Fg)(n:Nat):Sp:=λvs H Q _=>∃(v:V)(t:Tm),vs=[v]/\TmV K H v t/\lv t<=n/\∀H',Same H H'->Q (.bl true) H'
section
variable{P:Program}{w:World}{K:Fg}{mg:Str->Option Value}{base:Heap}{f:Addr}{fd:FuncData}
theorem Pg:FnScope ["_law_found","_law_part"] ["_law_found"] (defScope Mx):=(0:)
theorem Py{n:Nat}(F:Fun K "_law_is_term" "_law_is_term" Mx f fd)(G:Gm mg)(RH:Fn P w K mg base 1 "_law_whole" ["_law_found"] UH)(R:Fn P w K mg base (n+1) "_law_is_term" ["_law_found"] (U3 K n)):FnOk P w K mg base CX0 (n+2) f fd ["_law_found"] (U3 K (n+1)):=by
 refine F.ok Pg (11:) (λag A outer s H vs Q E U h=>?_)
 .obtain⟨v,t,rfl,_⟩:=h
  rfl
 obtain⟨v,t,rfl,ht,ab,q⟩:=h;refine⟨_,(Qh (QM (PW.pt (pw_or (Zy (QS (Qq ZR rfl G.isi PyProof.Rows.boot_isinstance (Qa (pv 0) (Qa (ZS (v:=.ty "tuple") rfl G.tup PyProof.Rows.boot_tuple rfl) Qe))))) (pw_or1 (QC Xq (Qq Qs rfl G.len PySem.boot_len (Qa (pv 0) Qe)) (Qx (Qa (Qf) (Qa (Qf) Qe))) rfl)))) (Qi (Ql ZZ)) Qr)
  (Qh (QM (QC Yo (Qq Qs rfl G.len PySem.boot_len (Qa (pv 0) Qe)) Qf (QK _)) (Qi (Ql (U6 (YG Yo (4:) QJ (QK _)) (U6 (QF RH U (Qa (4:) Qe) (Nat.le_add_left 1 n)) (Xy (QF RH U (Qa (4:) Qe) (Nat.le_add_left 1 n))))))) Qr)
  (Qh (QM (PW.pt (pw_or (QC WP (4:) QJ (QK _)) (pw_or (Zy (QS (Qq Zt rfl G.isi PyProof.Rows.boot_isinstance (Qa (4:) (Qa (ZS (v:=.ty "str") rfl G.str PyProof.Rows.boot_str rfl) Qe))))) (pw_or1 (Zy (QS (Qq Zt rfl G.isi PyProof.Rows.boot_isinstance (Qa (4:) (Qa (ZS (v:=.ty "bool") rfl G.boo PyProof.Rows.boot_bool rfl) Qe))))))))) (Qi (Ql ZZ)) Qr)
  (Qh (QM (PW.pt (pw_or (Zy (QS (QF RH U (Qa (4:) Qe) (Nat.le_add_left 1 n)))) (pw_or1 (Zy (QS (Qq ZR rfl G.isi PyProof.Rows.boot_isinstance (Qa (4:) (Qa (ZS (v:=.ty "tuple") rfl G.tup PyProof.Rows.boot_tuple rfl) Qe)))))))) (Qi (Ql ZZ)) Qr)
  (Qh (QX PassesOwn.never rfl (Ub (4:)) (Qw (i:=1) Pg.nd rfl (32:)) (Qi (QM (Zy (QS (QF R U (Qa (pv 1) Qe) (7:)))) (Qi (Ql ZZ)) Qr)))
  (Qi (Ql ZZ))))))),?_⟩
 try dsimp only [Qn,Cx.nox]
 rcases Zv ht with⟨a,m,b,rfl,rfl,h1⟩ | ⟨a,b,bs,nm,k,ad,rfl,et,h1,h2,h3,h4⟩
 .refine⟨_,rfl,a,_,"tuple",true,rfl,h1,rfl,_,rfl,Zn ⟨_,rfl,a,_,rfl,.inr h1,(30:),λp hp=>?_⟩⟩;have L:=Qc hp (.tup [.int 3,.int 5]);have J:=L.seqT h1;refine⟨p,_,rfl,.inr (SqT.of Qb),rfl,rfl,_,rfl,Zn ?_⟩;refine⟨_,rfl,a,_,rfl,.inr J,rfl,_,rfl,UC rfl ?_⟩;refine⟨_,rfl,a,_,0,_,rfl,rfl,J,rfl,rfl,_,rfl,UC rfl ⟨_,rfl,a,_,1,_,rfl,rfl,J,rfl,m,rfl,_,rfl,Zk ⟨_,rfl,a,_,2,_,rfl,rfl,J,rfl,b,rfl,q _ L⟩⟩⟩
 have af:=h3.length;rw [Q8]at ab;refine⟨_,rfl,a,_,"tuple",true,rfl,h1,rfl,_,rfl,Zn ⟨_,rfl,a,_,rfl,.inr h1,(30:),λp hp=>?_⟩⟩;have L:=Qc hp (.tup [.int 3,.int 5]);have J:=L.seqT h1;have Z:=L.seqT h2;refine⟨p,_,rfl,.inr (SqT.of Qb),rfl,rfl,_,rfl,Zn ?_⟩;refine⟨_,rfl,a,_,rfl,.inr J,rfl,_,rfl,Jy (λz=>by injection z with z;exact absurd z (by show ¬((5:Nat):Int)=3;decide)) ?_⟩;refine⟨_,rfl,a,_,0,_,rfl,rfl,J,rfl,rfl,_,rfl,Mm rfl ⟨_,rfl,a,_,1,_,rfl,rfl,J,rfl,_,"str",_,true,rfl,.str _,rfl,_,rfl,Zn ⟨_,rfl,a,_,2,_,rfl,rfl,J,rfl,_,"bool",_,true,rfl,.bl _,rfl,_,rfl,Zn ?_⟩⟩⟩;refine⟨_,rfl,a,_,3,_,rfl,rfl,J,rfl,ad,rfl,_,rfl,Zn ⟨_,rfl,a,_,4,_,rfl,rfl,J,rfl,b,_,"tuple",true,rfl,Z,rfl,_,rfl,Zn ?_⟩⟩;refine⟨_,rfl,a,_,4,_,rfl,rfl,J,rfl,b,rfl,⟨_,Z⟩,?_⟩;refine XH (K:=K) (xs:=bs) (λi σ H'=>∃Y:Option V,σ=[some (.ref a),Y]/\Same H H') ⟨none,rfl,L⟩ ?_ ?_ ?_
 .rintro i σ H' _ ⟨Y,_,g⟩;exact g.seqT h2
 .rintro i x σ H' hx ⟨Y,rfl,g⟩;have hi:i<bs.length:=(72:).1;have aa:i<t.bs.length:=by lia
  obtain⟨cv,ac,ae⟩:=h3.get (List.getElem?_eq_getElem aa);obtain rfl:cv=x:=Option.some.inj (ac.symm.trans hx);have a1:=WJ (List.getElem_mem aa);exact⟨_,rfl,cv,t.bs[i],rfl,ae.mono λ_ _=>g.seqT,by lia,λH4 g4=>⟨_,rfl,Zn ⟨_,rfl,g.trans g4⟩⟩⟩
 .rintro σ H' ⟨Y,rfl,g⟩;exact q H' g
theorem Mf{k:Nat}:FnOk P w K mg base CX0 k f fd ["_law_found"] (U3 K 0):=by
 have G:∀vs H Q E,¬U3 K 0 vs H Q E:=λvs H Q E h=>by
  obtain⟨v,t,_,_,J,_⟩:=h;rw [Q8]at J;lia
 exact(58:)
theorem V0(F:Fun K "_law_is_term" "_law_is_term" Mx f fd)(G:Gm mg)(RH:Fn P w K mg base 1 "_law_whole" ["_law_found"] UH)(hb:Binds K fd ["_law_found"] [])(hm:mg "_law_is_term"=some (82:)):∀n:Nat,FnOk P w K mg base CX0 (n+1) f fd ["_law_found"] (U3 K n)
 | 0=>Mf
 | n+1=>Py F G RH ⟨f,fd,V0 F G RH hb hm n,hb,F.kp,hm⟩
end
end K65
namespace K65
open PySem L2 TM TT K9 K11
def Z3(r:PNx):PyData:=.tuple [.str r.2.1,.tuple (r.2.2.2.map .str)]
theorem Xt{K:Fg}{H:Hp}:∀{rs:List PNx},(∀t∈rs,RowAt K H t)->RdAll K H (rs.map λt=>V.ref t.1) (rs.map Z3)
 | [],_=>.nil
 | t::r,h=>.cons (.tup (h t List.mem_cons_self).1 (.cons (.str _) (.cons (.tup (h t List.mem_cons_self).2 (YV _)) .nil))) (Xt λu G=>h u (34:))
theorem U2:∀{rs:List PNx},(∀r∈rs,PyData.strOk r.2.1=true)->(∀r∈rs,∀x∈r.2.2.2,PyData.strOk x=true)->PyData.canLayAll0 (rs.map Z3)=true
 | [],_,_=>by simp [PyData.canLayAll0]
 | r::rs,h1,h2=>by
  simp only [List.map_cons,PyData.canLayAll0,Z3,PyData.canLay0,h1 r List.mem_cons_self,YX _ (h2 r List.mem_cons_self),Bool.and_self,Bool.true_and];exact U2 (λu G=>h1 u (34:)) λu G=>h2 u (34:)
def Zj(p:Str×List PNx):PyData:=.tuple [.str p.1,.list (p.2.map Z3)]
theorem Wk{K:Fg}{H:Hp}:∀{ks:List KdT},(∀k∈ks,SqT K H k.1 [.str k.2.1,.ref k.2.2.1]/\RowsL K H k.2.2.1 k.2.2.2)->RdAll K H (ks.map λk=>V.ref k.1) ((dW ks).map Zj)
 | [],_=>.nil
 | k::r,h=>.cons (.tup (h k List.mem_cons_self).1 (.cons (.str _) (.cons (.lst (h k List.mem_cons_self).2.1 (Xt (h k List.mem_cons_self).2.2)) .nil))) (Wk λu G=>h u (34:))
theorem Ua:∀{ks:List KdT},(∀k∈ks,PyData.strOk k.2.1=true)->(∀k∈ks,RowsOk k.2.2.2)->PyData.canLayAll0 ((dW ks).map Zj)=true
 | [],_,_=>by simp [dW,PyData.canLayAll0]
 | k::r,h1,h2=>by
  show PyData.canLayAll0 (Zj (k.2.1,k.2.2.2)::(dW r).map Zj)=true;have J:PyData.canLayAll0 (k.2.2.2.map Z3)=true:=U2 (h2 k List.mem_cons_self).nm (h2 k List.mem_cons_self).kn;simp only [PyData.canLayAll0,Zj,PyData.canLay0,h1 k List.mem_cons_self,J,Bool.and_self,Bool.true_and];exact Ua (λu G=>h1 u (34:)) λu G=>h2 u (34:)
theorem U8:∀rs:List PNx,PyData.depthAll (rs.map Z3)<=2
 | []=>by simp [PyData.depthAll]
 | r::rs=>by
  have:=U8 rs;simp only [List.map_cons,PyData.depthAll,Z3,PyData.depth,Yy];lia
theorem Ul:∀ks:List (Str×List PNx),PyData.depthAll (ks.map Zj)<=4
 | []=>by simp [PyData.depthAll]
 | k::r=>by
  have h1:=Ul r;have h2:=U8 k.2;simp only [List.map_cons,PyData.depthAll,Zj,PyData.depth];lia
def Wu(m:Str×List Tm):PyData:=.tuple [.str m.1,.list (JI m.2)]
def tuD(ws:List (Str×List PNx))(t:Tm)(ds:List (Str×List Tm)):PyData:=.tuple [.list (ws.map Zj),tmd t,.list (ds.map Wu)]
theorem WQ{K:Fg}{H:Hp}:∀{ms:List MoT},(∀m∈ms,SN K H m)->RdAll K H (ms.map λm=>V.ref m.1) ((dM ms).map Wu)
 | [],_=>.nil
 | m::r,h=>by
  obtain⟨h1,h2,G⟩:=h m List.mem_cons_self;exact .cons (.tup h1 (.cons (.str _) (.cons (.lst h2 G.rd) .nil))) (WQ λx J=>h x (List.mem_cons_of_mem _ J))
theorem J0{K:Fg}{H:Hp}{tu wd lm:Addr}{sv:V}{ks:List KdT}{t0:Tm}{ms:List MoT}(h:TuAt K H tu wd sv lm ks t0 ms):RdV K H (.ref tu) (tuD (dW ks) t0 (dM ms)):=
 .tup h.tu (.cons (.lst h.wd.1 (Wk h.wd.2)) (.cons h.st.rd (.cons (.lst h.lm (WQ h.mo)) .nil)))
def Xn(K:Fg)(n:Nat):Sp:=λvs H Q _=>∃(fo du wd1 wd2 lm1 lm2:Addr)(sv1 sv2:V)(ks1 ks2:List KdT)(t:Tm)(ms1 ms2:List MoT),vs=[.ref fo,.ref du]/\TuAt K H fo wd1 sv1 lm1 ks1 t ms1/\TuAt K H du wd2 sv2 lm2 ks2 t ms2/\dW ks1=dW ks2/\dM ms1=dM ms2/\(tuD (dW ks1) t (dM ms1)).canLay0=true/\(tuD (dW ks1) t (dM ms1)).depth<=60/\lv t<=n/\(∀m∈ms1,∀r∈m.2.2.2.2,lv r<=n)/\∀H',Same H H'->Q (.bl true) H'
section
variable{P:Program}{w:World}{K:Fg}{mg:Str->Option Value}{base:Heap}{f:Addr}{fd:FuncData}
theorem XQ:FnScope ["_law_found","_law_due_here","_law_kind","_law_rules","_law_rule_here"] ["_law_found","_law_due_here"] (defScope VZ):=(0:)
theorem Oq{n:Nat}(F:Fun K "_law_same" "_law_same" VZ f fd)(G:Gm mg)(RT:Fn P w K mg base (n+1) "_law_is_term" ["_law_found"] (U3 K n)):FnOk P w K mg base CX0 (n+2) f fd ["_law_found","_law_due_here"] (Xn K n):=by
 refine F.ok XQ (11:) (λag A outer s H vs Q E hr h=>?_)
 .obtain⟨U,du,ah,ai,ac,aj,ad,ak,ks1,ks2,t,ms1,ms2,rfl,_⟩:=h
  rfl
 obtain⟨U,du,ah,ai,ac,aj,ad,ak,ks1,ks2,t,ms1,ms2,rfl,J,hD,ek,em,Y,ap,al,am,q⟩:=h;have af:∀m:Nat,m<=64->(A.deeper (PyProof.Rows.envOfC "_law_same" (defScope VZ) s.heap.objs.size f ag)).units+m<cLine:=λm hm=>by have:=hr.units;lia
 refine⟨_,(Qh (QM (PW.pt (pw_or (Zy (QS (Qq ZR rfl G.isi PyProof.Rows.boot_isinstance (Qa (pv 0) (Qa (ZS (v:=.ty "tuple") rfl G.tup PyProof.Rows.boot_tuple rfl) Qe))))) (pw_or (QC WP (Qq Qs rfl G.len PySem.boot_len (Qa (pv 0) Qe)) Qf (QK _)) (pw_or (QC L7 (pv 0) (pv 1) (QK _)) (pw_or1 (Zy (QS (QF RT hr (Qa (4:) Qe) (7:))))))))) (Qi (Ql ZZ)) Qr)
  (Qh (QX PassesOwn.never rfl (QG (4:)) (ZA rfl (QA (Qw (i:=2) XQ.nd rfl (32:)) (QA (Qw (i:=3) XQ.nd rfl (32:)) Zh)))
   (Qi (QX PassesOwn.never rfl (QG (pv 3)) (Qw (i:=4) XQ.nd rfl (32:)) (Qi (QM (Zy (QS (QF RT hr (Qa (pv 4) Qe) (7:)))) (Qi (Ql ZZ)) Qr)))))
  (Qi (Ql ZZ)))),?_⟩
 try dsimp only [Qn,Cx.nox]
 have ab:=J0 hD;rw [<-ek,<-em]at ab;refine⟨_,rfl,U,_,"tuple",true,rfl,J.tu,rfl,_,rfl,Zn ⟨_,rfl,U,_,rfl,.inr J.tu,rfl,_,rfl,Mm rfl ⟨_,rfl,_,rfl,tuD (dW ks1) t (dM ms1),tuD (dW ks1) t (dM ms1),J0 J,ab,Y,Y,af _ (Nat.le_trans (Nat.min_le_left _ _) (6:)),_,rfl,?_⟩⟩⟩;rw [if_pos rfl,Yb _ Y];refine Zn ⟨_,rfl,U,_,1,_,rfl,rfl,J.tu,rfl,ad,t,rfl,J.st,al,λH1 g1=>⟨_,rfl,Zn ?_⟩⟩;have ae:=J.same g1;refine⟨_,rfl,U,_,2,_,rfl,rfl,ae.tu,rfl,ac,rfl,⟨_,ae.lm⟩,?_⟩;refine ZJ (K:=K) (xs:=ms1.map λm=>V.ref m.1) (λi σ H'=>∃c2 c3 L:Option V,σ=[some (.ref U),some (.ref du),c2,c3,L]/\Same H H') ⟨none,none,none,rfl,g1⟩ ?_ ?_ ?_
 .rintro i σ H' _ ⟨c2,c3,L,_,g⟩;exact g.seq J.lm
 .rintro i x σ H' hx ⟨c2,c3,L,rfl,g⟩;have hi:i<ms1.length:=by
   have:=(72:).1
   rwa [List.length_map]at this
  obtain rfl:x=.ref ms1[i].1:=by
   rw [List.getElem?_map,List.getElem?_eq_getElem hi]at hx;exact(Option.some.inj hx).symm
  have Z:=List.getElem_mem hi;obtain⟨m1,m2,m3⟩:=(J.same g).mo _ Z;have aq:=m3.length;refine⟨ms1[i].1,_,rfl,m1,rfl,_,_,rfl,_,_,rfl,rfl,?_⟩;refine⟨_,rfl,ms1[i].2.2.1,rfl,⟨_,m2⟩,?_⟩;refine ZJ (K:=K) (xs:=ms1[i].2.2.2.1) (λj σ aa=>∃L:Option V,σ=[some (.ref U),some (.ref du),some (.str ms1[i].2.1),some (.ref ms1[i].2.2.1),L]/\Same H aa) ⟨L,rfl,g⟩ ?_ ?_ ?_
  .rintro j σ aa _ ⟨L,_,g'⟩;exact((J.same g').mo _ Z).2.1
  .rintro j y σ aa hy ⟨L,rfl,g'⟩;have hj:j<ms1[i].2.2.2.2.length:=by
    have:=(List.getElem?_eq_some_iff.mp hy).1;lia
   obtain⟨cv,an,ao⟩:=((J.same g').mo _ Z).2.2.get (List.getElem?_eq_getElem hj);obtain rfl:cv=y:=Option.some.inj (an.symm.trans hy);exact⟨_,rfl,cv,ms1[i].2.2.2.2[j],rfl,ao,am _ Z _ (List.getElem_mem hj),λH4 g4=>⟨_,rfl,Zn ⟨_,rfl,g'.trans g4⟩⟩⟩
  .rintro σ aa ⟨L,rfl,g'⟩;exact⟨_,_,_,rfl,g'⟩
 .rintro σ H' ⟨c2,c3,L,rfl,g⟩;exact q H' g
end
end K65
namespace L2
open PySem PySem.Spec PyProof.Rows
structure W1(X:Cx)(st:Stmt)(t:TS):Prop where
 h:PS X st t
section
variable{X:Cx}{st:Stmt}{rest a b:List Stmt}{t u:TS}{e c:Expr}{es:List Expr}{te:TE}{ta:TA}{tc:TT}{pos:Pos}
end
end L2
namespace L2
open PySem PySem.Spec PyProof.Rows
section
variable{X:Cx}{p0 p1 p2 p3 p4 p5:Pos}
end
section
variable{X:Cx}{p0 p1 p2 p3 p4:Pos}{e1 e2 e3 e4:Expr}{t1 t2 t3 t4:TE}
end
end L2
namespace L2
open PySem PySem.Spec PyProof.Rows
section
variable{X:Cx}
end
end L2
namespace K65
open PySem L2 TM TT K9 K11
abbrev wts(ks:List KdT):List (Addr×Str×V):=ks.map λk=>(k.1,k.2.1,V.ref k.2.2.1)
abbrev wkv(ks:List KdT):List (Key×V):=(wts ks).map λt=>(57:)
section
variable{K:Fg}{H:Hp}{wd:Addr}{ks:List KdT}
theorem wdA(hW:WoodAt K H wd ks):SqL K H wd ((wts ks).map λt=>V.ref t.1):=by rw [List.map_map];exact hW.1
theorem wdB(hW:WoodAt K H wd ks):∀t∈wts ks,SqT K H t.1 [.str t.2.1,t.2.2]:=λt G=>by
 obtain⟨k,J,rfl⟩:=List.mem_map.mp G;exact(hW.2 k J).1
theorem wdC(hO:WoodOk ks):((wts ks).map λt=>t.2.1).Nodup:=by rw [List.map_map];exact hO.nd
theorem wdD(hO:WoodOk ks):(wts ks).length<=1000:=by rw [List.length_map];have:=hO.len;lia
end
theorem Ls{H:Hp}{d:Addr}{ks:List KdT}{kind:Str}{k:KdT}(h:H d=some (.dK (wkv ks)))(e:ks.find? (75:)=some k):DGet H d (.str kind) (some (.ref k.2.2.1)):=by
 have G:=DGet.k (k:=Sum.inr kind) h;have J:Zx (wkv ks) (Sum.inr kind)=(ks.find? λk=>decide (k.2.1=kind)).map λk=>V.ref k.2.2.1:=by
  unfold wkv wts;rw [List.map_map];exact YU (λk:KdT=>k.2.1) (λk=>V.ref k.2.2.1) kind ks
 rw [J,e]at G;exact G
section
variable{P:Program}{w:World}{K:Fg}{mg:Str->Option Value}{base:Heap}{f:Addr}{fd:FuncData}
theorem YL:FnScope ["_law_turning","_law_mode","_law_name","_law_kind","_law_rules","_law_row","_law_rule_here"] ["_law_turning","_law_mode","_law_name"] (defScope NF):=(0:)
theorem Mq(F:Fun K "_law_rule" "_law_rule" NF f fd)(G:Gm mg):FnOk P w K mg base CX0 1 f fd ["_law_turning","_law_mode","_law_name"] (QV K):=by
 refine F.ok YL (11:) (λas A outer s H vs Q E hr h=>?_)
 .obtain⟨nm,n,tu,wd,lm,sv,ks,t0,r,ms,m,name,rfl,_⟩:=h
  rfl
 obtain⟨nm,n,tu,wd,lm,sv,ks,t0,r,ms,m,name,rfl,Y,hO,J,q⟩:=h;refine⟨_,(Qh (VB (Qk QP (4:) (pv 1) (26:)) (ZA rfl (QA (Qw (i:=3) YL.nd rfl (32:)) (QA (Qw (i:=4) YL.nd rfl (32:)) Zh))))
  (Qh (QX PassesOwn.never rfl (VG rfl G.zip (Qa (YM (Z8 hr) (QI (Zp rfl) rfl G.dct PyProof.Rows.boot_dict (Qa (4:) Qe)) (pv 3) (26:)) (Qa (pv 4) Qe))) (ZA rfl (QA (Qw (i:=5) YL.nd rfl (32:)) (QA (Qw (i:=6) YL.nd rfl (32:)) Zh)))
   (Qi (QM (QC Yo (Qk Qj (pv 5) Qf (26:)) (pv 2) (QK _)) (Qi (Ql (pv 6))) Qr)))
  (Qi (Ql Uk)))),?_⟩
 try dsimp only [Qn,Cx.nox]
 unfold ruK at J
 by_cases ab:0<=m
 .rw [if_pos ab]at J;cases em:ms[m.toNat]? with
  | none=>rw [em]at J;cases J
  | some L=>
   rw [em]at J;have J:(((rowsK ks L.2.1).zip L.2.2.2.2).find? λp=>decide (p.1.2.1=name)).map (·.2)=some r:=J;have aa:=List.mem_of_getElem? em;have ai:atI (ms.map λm=>V.ref m.1) m=some (.ref L.1):=by
    rw [<-Int.toNat_of_nonneg ab];exact Qo (by rw [List.getElem?_map,em];rfl)
   obtain⟨m1,m2,m3⟩:=Y.mo _ aa;refine⟨_,rfl,tu,_,2,_,rfl,rfl,Y.tu,rfl,_,rfl,lm,_,_,_,rfl,rfl,Y.lm,ai,L.1,_,rfl,m1,rfl,_,_,rfl,_,_,rfl,rfl,?_⟩;obtain⟨U,aj,ah,ac⟩:=Yg (hO.kd _ aa);have ad:=hO.ru _ aa;rw [ah]at ad J;refine⟨_,rfl,tu,_,0,_,rfl,rfl,Y.tu,rfl,wd,wts ks,rfl,wdA Y.wd,wdB Y.wd,wdC hO.wo,wdD hO.wo,λdd ak=>⟨_,rfl,dd,.ref U.2.2.1,rfl,Ls Qb aj,?_⟩⟩;have g1:=Qc ak (.dK (wkv ks));generalize upd H dd (.dK (wkv ks))=H1 at g1 ⊢;have ae:=Y.same g1;obtain⟨au,al,am⟩:=ae.mo _ aa;have an:=am.length;have ao:(U.2.2.2.map λt=>V.ref t.1).length=L.2.2.2.1.length:=by rw [List.length_map,ad,an]
   refine⟨_,rfl,U.2.2.1,L.2.2.1,_,_,rfl,(ae.wd.2 U ac).2.1,al,?_⟩;refine Xo (K:=K) (xs:=U.2.2.2.map λt=>V.ref t.1) (ys:=L.2.2.2.1) ao (λj σ H'=>∃(c4 c5:Option V),σ=[some (.ref tu),some (.int m),some (.str name),some (.str L.2.1),some (.ref L.2.2.1),c4,c5]/\Same H H'/\(((U.2.2.2.zip L.2.2.2.2).drop j).find? λp=>decide (p.1.2.1=name)).map (·.2)=some r)
    ⟨none,none,rfl,g1,J⟩ ?_ ?_ ?_
   .rintro j σ H' _ ⟨c4,c5,_,g,_⟩;have af:=Y.same g;exact⟨(af.wd.2 U ac).2.1,(af.mo _ aa).2.1⟩
   .rintro j u v p σ H' hu hv hp ⟨c4,c5,rfl,g,Z⟩;have hj:j<U.2.2.2.length:=by
     have:=(List.getElem?_eq_some_iff.mp hu).1
     rwa [List.length_map]at this
    have ap:j<L.2.2.2.2.length:=by lia
    obtain rfl:u=.ref U.2.2.2[j].1:=by
     rw [List.getElem?_map,List.getElem?_eq_getElem hj]at hu;exact(Option.some.inj hu).symm
    have gp:=Qc hp (.tup [.ref U.2.2.2[j].1,v]);have g':=g.trans gp;have ag:=Y.same g';obtain⟨r1,r2⟩:=(ag.wd.2 U ac).2.2 _ (List.getElem_mem hj);obtain⟨cv,aq,ar⟩:=(ag.mo _ aa).2.2.get (List.getElem?_eq_getElem ap);obtain rfl:cv=v:=Option.some.inj (aq.symm.trans hv);have ez:(U.2.2.2.zip L.2.2.2.2).drop j=(U.2.2.2[j],L.2.2.2.2[j])::(U.2.2.2.zip L.2.2.2.2).drop (j+1):=by
     rw [List.drop_eq_getElem_cons (by rw [List.length_zip];lia),List.getElem_zip]
    rw [ez,List.find?_cons]at Z;refine⟨p,_,rfl,SqT.of Qb,rfl,_,_,rfl,_,_,rfl,rfl,?_⟩;refine⟨_,rfl,_,_,0,_,rfl,rfl,r1,rfl,_,rfl,rfl,_,rfl,?_⟩
    by_cases he:U.2.2.2[j].2.1=name
    .rw [decide_eq_true he]at Z;have Z:L.2.2.2.2[j]=r:=Option.some.inj Z;rw [<-Z]at q;exact UC (by rw [he]) ⟨_,rfl,q _ _ g' ar⟩
    .rw [decide_eq_false he]at Z;exact Jy (λz=>he (by injection z)) ⟨_,_,rfl,g',Z⟩
   .rintro σ H' ⟨c4,c5,rfl,g,Z⟩;rw [List.length_map,List.drop_of_length_le (by rw [List.length_zip];lia)]at Z;cases Z
 .rw [if_neg ab]at J;cases J
end
end K65
namespace K65
open PySem L2 TM TT K9 K11
theorem tmS{K:Fg}{H H':Hp}{v:V}{t:Tm}(g:Same H H')(h:TmV K H v t):TmV K H' v t:=h.mono λ_ _=>g.seqT
theorem Pl{ru:Int->Str->Option Tm}:∀n:Nat,(∀(r t:Tm)(o:TP),BR ru n r t o->BR ru (n+1) r t o)/\∀(m:Int)(t:Tm)(o:TP),BM ru n m t o->BM ru (n+1) m t o
 | 0=>⟨λr t o h=>by rw [BR]at h;exact h.elim,λm t o h=>by rw [BM]at h;exact h.elim⟩
 | n+1=>by
  obtain⟨h1,h2⟩:=Pl (ru:=ru) n;constructor
  .intro r t o h;rw [BR]at h ⊢;obtain⟨a,b,c,e,h⟩:=h;refine⟨a,b,c,e,?_⟩;split at h
   .obtain⟨d,x,y,z⟩:=h;exact⟨d,x,y,h2 _ _ _ z⟩
   .obtain⟨os,x,y,z⟩:=h;exact⟨os,x,y,λi p q hp G=>h1 _ _ _ (z i p q hp G)⟩
  .intro m t o h;rw [BM]at h ⊢;split at h
   .exact h
   .obtain⟨r,x,y⟩:=h;exact⟨r,x,h1 _ _ _ y⟩
theorem Pf{ru:Int->Str->Option Tm}{n:Nat}{r t:Tm}{o:TP}(h:BR ru n r t o):BR ru (n+1) r t o:=(Pl n).1 r t o h
def Vc(K:Fg)(n:Nat):Sp:=λvs H Q _=>∃(ot wd lm:Addr)(sv:V)(ks:List KdT)(t0:Tm)(ms:List MoT)(nm n':Nat)(rv tv:V)(rule read:Tm)(out:TP),vs=[.ref ot,rv,tv]/\TuAt K H ot wd sv lm ks t0 ms/\TuOk ks nm n' t0 ms/\TmV K H rv rule/\TmV K H tv read/\BR (ruK ks ms) n rule read out/\
 ∀(v:V)(H':Hp),Same H H'->TpV K H' v out->Q v H'
def cOn:List G3.S:=[.ite (.cmp .Eq (.ix (.v 1) (78:)) (.k (.str "call"))) [.set 3 (.ix (.ix (.v 2) (.k (.int 4))) (.ix (.v 1) (.k (.int 2)))),.ite (.cmp .Eq (.ix (.v 3) (78:)) (.k (.str "call"))) [.ret (.tup [.k (.str "call"),.tup [.ix (.v 3) (56:),.ix (.v 1) (56:)],.ix (.v 3) (.k (.int 2))])] [],.ret (.call 0 [.v 0,.call 1 [.v 0,.ix (.v 1) (56:),.ix (.v 3) (56:)],.v 3])] [],.setC 4 (.comp 2 (.ix (.v 1) (.k (.int 4))) [0,2] (.call 0 [.v 1,.v 0,.v 2])),.ret (.tup [.k (.str "put"),.ix (.v 1) (56:),.an (.ix (.v 1) (.k (.int 2))) (.ix (.v 2) (.k (.int 2))),.bin .Add (.ix (.v 1) (.k (.int 3))) (.bin .Mult (.ix (.v 2) (.k (.int 3))) (.call 2 [.ix (.v 1) (.k (.int 2))])),.call 3 [.v 4]])]
def nOn(K:Fg)(n:Nat):G3.En:=⟨K,[λ_ vs H Q=>Vc K n vs H Q E0,λ_ vs H Q=>QV K vs H Q E0,λ_ vs H Q=>G3.rInt K vs H Q,λ_ vs H Q=>G3.rTupOf K vs H Q],[],[],[]⟩
section
variable{P:Program}{w:World}{K:Fg}{mg:Str->Option Value}{base:Heap}{f:Addr}{fd:FuncData}
theorem TY:FnScope ["_law_other","_law_rule_here","_law_term","_law_part","_law_parts"] ["_law_other","_law_rule_here","_law_term"] (defScope sOn):=(0:)
theorem Sl{n:Nat}(F:Fun K "_law_on" "_law_on" sOn f fd)(G:Gm mg)(RU:Fn P w K mg base 1 "_law_rule" ["_law_turning","_law_mode","_law_name"] (QV K))(R:Fn P w K mg base (n+2) "_law_on" ["_law_other","_law_rule_here","_law_term"] (Vc K n)):FnOk P w K mg base CX0 (n+3) f fd ["_law_other","_law_rule_here","_law_term"] (Vc K (n+1)):=by
 refine G3.Fun.okC F TY (nOn K n) cOn (λX c=>⟨.cons (c.fn R (7:)) (.cons (c.fn RU (6:)) (.cons (c.ty G3.call_int G.int PyProof.Rows.boot_int) (.cons (c.ty (λ_=>G3.call_tupOf) G.tup PyProof.Rows.boot_tuple) .nil))),.nil,.nil⟩) (11:) (λH vs Q E h=>?_) G.rng
 .obtain⟨ot,wd,lm,sv,ks,t0,ms,nm,n',rv,tv,rule,U,out,rfl,_⟩:=h
  rfl
 obtain⟨ot,wd,lm,sv,ks,t0,ms,nm,n',rv,tv,rule,U,out,rfl,aa,hO,aj,ae,J,q⟩:=h;rw [BR]at J;obtain⟨ak,k1,a1,af,J⟩:=J;rcases Zv ae with⟨_,_,_,rfl,rfl,_⟩ | ⟨ta,tb,ay,tn,tk,ag,rfl,al,r1,r2,r3,r4⟩
 .cases af
 have ah:lab U=.put tn tk ag:=by rw [al];rfl
 obtain⟨rfl,rfl,rfl⟩:ak=tn/\k1=tk/\a1=ag:=by rw [af]at ah;injection ah with z1 z2 z3;exact⟨z1,z2,z3⟩
 rcases Zv aj with⟨a,mo,b,rfl,rfl,h1⟩ | ⟨a,b,bs,am,k',an,rfl,et,h1,h2,h3,h4⟩
 .obtain⟨c,ao,hc,J⟩:=J;obtain⟨cv,ab,Z⟩:=r3.get hc;refine .t _ _ h1 rfl<| .t _ _ r1 rfl<| .t _ _ h1 rfl<| .t _ _ r2 (by rw [<-Int.toNat_of_nonneg ao];exact Qo ab) ?_;obtain⟨j,rfl⟩: ∃j,n=j+1:=by
   cases n with
   | zero=>rw [BM]at J;exact J.elim
   | succ j=>exact⟨j,rfl⟩
  rw [BM]at J;rcases Zv Z with⟨ca,cm,cb,rfl,rfl,s1⟩ | ⟨ca,cb,az,cn,ck,ap,rfl,aq,s1,s2,s3,s4⟩
  .have J:out=_:=J;refine .t _ _ s1 rfl<| .t _ _ s1 rfl<| .t _ _ h1 rfl ⟨λp1 X1 k1 d1 e1=>.t _ _ (k1.seqT s1) rfl ⟨λp2 X2 k2 d2 _=>q _ X2 (k1.trans k2) ?_⟩⟩;rw [J];exact .call d2 (k2 _ _ e1)
  .have ar:lab c=.put cn ck ap:=by rw [aq];rfl
   rw [ar]at J;obtain⟨r',as,J⟩:=J;refine .t _ _ s1 rfl<| .t _ _ h1 rfl<| .t _ _ s1 rfl ⟨nm,n',ot,wd,lm,sv,ks,t0,r',ms,mo,cn,rfl,aa,hO,as,λau H1 g1 ai=>?_⟩;exact⟨ot,wd,lm,sv,ks,t0,ms,nm,n',au,.ref ca,r',c,out,rfl,aa.same g1,hO,ai,tmS g1 Z,Pf J,λv H' g' hv=>q v H' (g1.trans g') hv⟩
 have av:lab rule=.put am k' an:=by rw [et];rfl
 rw [av]at J;obtain⟨os,rfl,a0,J⟩:=J;have ax:=h3.length;refine .t _ _ h1 rfl<| .t _ _ h1 rfl<| .t bs h2<| .s (λi ys H'=>ys.length=i/\TpAll K H' ys (os.take i)) (λH1 g=>⟨rfl,.nil⟩) (λacc i ys l H1 H2 h el _ k1 k2=>⟨h.1,h.2.mono ⟨k2,λa xs e=>k1 _ _ (ne_of e el (10:)) e⟩⟩) (by lia) (λi ys H1 hi _ g h=>?_) λp ys H1 g hp h=>?_
 .obtain⟨c,hc⟩: ∃c,rule.bs[i]?=some c:=(41:);have ho:=List.getElem?_eq_getElem (show i<os.length by lia);obtain⟨cv,ab,Z⟩:=h3.get hc;have ex:(bs[i]?).getD .non=cv:=by rw [ab];rfl
  refine⟨ot,wd,lm,sv,ks,t0,ms,nm,n',cv,.ref ta,c,U,os[i],by rw [<-ex],aa.same g,hO,tmS g Z,tmS g ae,J i c _ hc ho,λv' H4 g4 aw=>⟨g4,by simp [h.1],?_⟩⟩;rw [List.take_add_one,ho];exact TpAll.append (h.2.mono (KeepT.same g4)) (.cons aw .nil)
 obtain⟨hl,ac⟩:=h;rw [List.take_of_length_le (6:)]at ac;have L:=g.seqT h1;have ad:=g.seqT r1;refine .t _ _ L rfl<| .t _ _ L rfl ?_;cases k' with
 | true=>
  refine .t _ _ ad rfl<| .t _ _ L rfl<| .t _ _ ad rfl<| .t _ _ L rfl ⟨.inr ⟨by decide,by decide⟩,.l ys (SqL.of hp) λpt H2 g2 d2=>⟨λpr H3 Y d3 _=>q _ H3 (g.trans (g2.trans Y)) ?_⟩⟩;rw [if_pos rfl,Int.mul_one]at d3;exact .put d3 (Y.seqT d2) (ac.mono (KeepT.same (g2.trans Y))) (6:)
 | false=>
  refine .t _ _ L rfl<| .t _ _ ad rfl<| .t _ _ L rfl ⟨.inr ⟨by decide,by decide⟩,.l ys (SqL.of hp) λpt H2 g2 d2=>⟨λpr H3 Y d3 _=>q _ H3 (g.trans (g2.trans Y)) ?_⟩⟩;rw [if_neg (18:),Int.mul_zero,Int.add_zero]at d3;exact .put d3 (Y.seqT d2) (ac.mono (KeepT.same (g2.trans Y))) (6:)
theorem Ng(F:Fun K "_law_on" "_law_on" sOn f fd)(G:Gm mg)(RU:Fn P w K mg base 1 "_law_rule" ["_law_turning","_law_mode","_law_name"] (QV K))(hb:Binds K fd ["_law_other","_law_rule_here","_law_term"] [])(hm:mg "_law_on"=some (82:)):∀n:Nat,FnOk P w K mg base CX0 (n+2) f fd ["_law_other","_law_rule_here","_law_term"] (Vc K n)
 | 0=>⟨λvs H Q E h=>by obtain⟨U,wd,Y,Z,ks,t0,ms,nm,n',rv,tv,rule,J,out,rfl,_⟩:=h;rfl,λA outer s H aa us vs Q E _ _ _ _ h=>by obtain⟨U,wd,Y,Z,ks,t0,ms,nm,n',rv,tv,rule,J,out,_,_,_,_,_,L,_⟩:=h;rw [BR]at L;exact L.elim⟩
 | n+1=>Sl F G RU ⟨f,fd,Ng F G RU hb hm n,hb,F.kp,hm⟩
end
end K65
namespace G3
open PySem L2
theorem Pa{X:Cx}{T:Tb}{fs:List Rel}{ms:List Mr}{nr:List (48:)}{sr:List (St->List V->Hp->(St->Hp->Prop)->Prop)}(F:FitS X T fs ms nr sr){b:List Stmt}{tb:TS}(hb:PSs X b tb):∀(as:List S)(a:List Stmt),chS T as a=true->PSs X (a++b) (λD=>ES (35:) as { D with nx:=tb D })
 | [],[],h=>hb
 | [],_::_,h=>nomatch h
 | _::_,[],h=>nomatch h
 | c::r,s::a,h=>by
  obtain⟨h1,h2⟩:=b2 (show(ch1 T c s&&chS T r a)=true from h);exact Qh (sn1 F c _ h1) (Pa F hb r _ h2)
theorem Fun.okM{P:Program}{w:World}{K:Fg}{mg:Str->Option Value}{base:Heap}{x qual:Str}{st:Stmt}{f:Addr}{fd:FuncData}{N ps fn mt:List Str}{nk:List (Expr->Option (List Expr))}{k:Nat}{sp:Sp}(F:Fun K x qual st f fd)(S:FnScope N ps (52:))(n:En)(c1:List G3.S)(m:Nat)(tm:TS)(c2:List G3.S)
 (hcx:∀X:Cx,Cxt X P w K mg base k->Calls X fn n.fs/\Meths X mt n.ms/\Nodes X nk n.nr)
 (len:∀vs H Q E,sp vs H Q E->vs.length=ps.length)
 (hmid:∀cdv A outer s H E,Room k (Qn CX0 P w K mg base N qual (52:) f cdv A outer s H E).nox.A->PS (Qn CX0 P w K mg base N qual (52:) f cdv A outer s H E).nox ((83:).getD m (.Pass ⟨0,0,0,0⟩)) tm)
 (hb:∀(H:Hp)(vs:List V)(Q:VK)(E:XK),sp vs H Q E->ES n c1 { nx:=tm { nx:=ES n c2 { nx:=λ_ H'=>Q .non H',rt:=Q },rt:=Q },rt:=Q } (ZH N vs) H)
 (hm:mg "range"=none) (hc1:chS ⟨N,defScope st,fn,mt,nk,[]⟩ c1 ((83:).take m)=true:=by decide+kernel) (hc2:chS ⟨N,defScope st,fn,mt,nk,[]⟩ c2 ((83:).drop (m+1))=true:=by decide+kernel) (hl:m<(83:).length:=by decide+kernel) (hn:n.K=K:=by rfl):FnOk P w K mg base CX0 (k+1) f fd ps sp:=by
 obtain⟨L,fs,ms,nr,sr⟩:=n;have hn:L=K:=hn;subst hn;refine F.ok S len λcdv A outer s H vs Q E G h=>?_;have J:FitS (Qn CX0 P w L mg base N qual (52:) f cdv A outer s H E).nox ⟨N,defScope st,fn,mt,nk,[]⟩ fs ms nr sr:=⟨⟨rfl,rfl,λX f i y e=>(hcx X (49:)).1.at i y e,λX f i y e=>(hcx X (49:)).2.1.at i y e,λX f i y e=>(hcx X (49:)).2.2.at i y e,rfl,hm⟩,S.nd,λ_=>rfl,PassesOwn.never,λi y e=>by simp at e⟩;have U:defBody st=(83:).take m++((83:).getD m (.Pass ⟨0,0,0,0⟩)::(83:).drop (m+1)):=by
  rw [List.getD_eq_getElem?_getD,List.getElem?_eq_getElem hl];show _=_++(_::_);rw [show(some (83:)[m]).getD (.Pass ⟨0,0,0,0⟩)=(83:)[m]from rfl,<-List.drop_eq_getElem_cons hl,List.take_append_drop]
 exact⟨_,by rw [U];exact Pa J (Qh (hmid cdv A outer s H E G) (snS J c2 _ hc2)) c1 _ hc1,hb H vs Q E h⟩
end G3
namespace K65
open PySem L2 TM TT K9 K11
def KdH(K:Fg)(H:Hp)(lw:Addr)(k:KdT):Prop:=SqT K H k.1 [.str k.2.1,.ref k.2.2.1]/\H k.2.2.1=some (.lst (k.2.2.2.map λt=>V.ref t.1))/\k.2.2.1≠lw/\∀t∈k.2.2.2,RowAt K H t
theorem KdH.same{K:Fg}{H H':Hp}{lw:Addr}{k:KdT}(g:Same H H')(h:KdH K H lw k):KdH K H' lw k:=⟨g.seqT h.1,g _ _ h.2.1,h.2.2.1,λt G=>(h.2.2.2 t G).same g⟩
theorem KdH.put{K:Fg}{H:Hp}{lw:Addr}{k:KdT}{ys:List V}{o:HO}(hl:H lw=some (.lst ys))(h:KdH K H lw k):KdH K (upd H lw o) lw k:=
 ⟨h.1.put hl,by rw [Qg h.2.2.1];exact h.2.1,h.2.2.1,λt G=>⟨(h.2.2.2 t G).1.put hl,(h.2.2.2 t G).2.put hl⟩⟩
theorem Ve{H H':Hp}{b:Addr}(g:Same H H')(h:H' b=none):H b=none:=by
 cases e:H b with
 | none=>rfl
 | some o=>rw [g _ _ e]at h;cases h
structure KF(kn:List Str)(rs:List PNx):Prop where
 ok:RowsOk rs
 bare:∃r∈rs,r.2.2.2=[]
 cl:∀r∈rs,∀x∈r.2.2.2,x∈kn
 w3:∀r∈rs,r.2.2.2.length<=3
structure WF(ks:List KdT):Prop where
 ok:WoodOk ks
 ne:0<ks.length
 l3:ks.length<=3
 nm:∀k∈ks,PyData.strOk k.2.1=true
 kf:∀k∈ks,KF (ks.map λk=>k.2.1) k.2.2.2
def XC(K:Fg):Sp:=λvs H Q _=>∃(c:Int)(ln:Addr)(ns:List Str),vs=[.int c,.ref ln]/\SqL K H ln (ns.map V.str)/\ns.length=8/\ns.Nodup/\(∀x∈ns,PyData.strOk x=true)/\
 ∀(lw:Addr)(H':Hp)(ks:List KdT),Same H H'->WoodAt K H' lw ks->WF ks->H lw=none->(∀k∈ks,H k.2.2.1=none)->Q (.ref lw) H'
abbrev Sq:List Str:=["_law_cell","_law_names_here","_law_kinds","_law_wood_here","_law_i","_law_first","_law_rows","_law_r","_law_number","_law_wide","_law_branches"]
def MF(K:Fg):List V->Hp->VK->Prop:=G3.on2 λx y H Q=>G3.asI y λi=>Rp K x none (some i) H Q
def Pc(K:Fg)(xs:List V)(H:Hp)(Q:VK):Prop:=∃(l:Addr)(ts:List PNx),xs=[.ref l]/\SqL K H l (67:)/\(∀t∈ts,SqT K H t.1 [.str t.2.1,.ref t.2.2.1]/\SqT K H t.2.2.1 (t.2.2.2.map V.str)/\∀x∈t.2.2.2,PyData.strOk x=true)/\(ts.map λt=>t.2.1).Nodup/\ts.length<64/\
 ∀(out:List PNx) p,out.Perm ts->(out.Pairwise λx y=>¬y.2.1.cps.toList<x.2.1.cps.toList)->H p=none->Q (.ref p) (upd H p (.lst (out.map λt=>V.ref t.1)))
theorem Az{X:Cx}{P:Program}{w:World}{K:Fg}{mg:Str->Option Value}{base:Heap}{k:Nat}(c:G3.Cxt X P w K mg base k){x:Str}{id:String}{r:Fg->List V->Hp->VK->Prop}(hc:∀X:Cx,Room k X.A->QR X (.builtin id) (r X.K))(hm:mg x=none)(hv:bootBuiltins x=some (.builtin id))(hn:x≠"__name__":=by decide):G3.CallOk X x (λ_ vs H Q=>r K vs H Q):=by
 obtain⟨rfl,rfl,rfl,rfl,rfl,G,J⟩:=c;exact .blt (hc X G) hm hv hn
theorem Ak{K:Fg}{i j:Int}{H:Hp}{Q:VK}(h:0<j)(k:Q (.int (i%j)) H):G3.rB K .Mod (.int i) (.int j) H Q:=G3.modI h k
structure RsW(K:Fg)(kn ns:List Str)(fi:Int)(lr:Addr)(H2 H:Hp)(r:Nat)(rs:List PNx):Prop where
 g:Same H2 H
 hl:H lr=some (.lst (rs.map λt=>V.ref t.1))
 n:rs.length=r
 at_:∀t∈rs,RowAt K H t/\(∀x∈t.2.2.2,x∈kn)/\t.2.2.2.length<=3
 nm:∀(j:Nat) t,rs[j]?=some t->ns[((fi/16+(j:Int))%8).toNat]?=some t.2.1
 z:∀t,rs[0]?=some t->t.2.2.2=[]
def VU:List G3.S:=[
 .set 8 (.call 1 [.v 0,.bin .Add (.bin .Add (.k (.int 8)) (.bin .Mult (.k (.int 4)) (.v 4))) (.v 7)]),
 .cut (.set 9 (.ix (.lst [.k (.int 0),.bin .Add (56:) (.bin .Mod (.v 8) (.k (.int 2))),.bin .Mod (.v 8) (.k (.int 3))]) (.v 7))),
 .setC 10 (.comp 0 (.v 9) [2,8] (.ix (.v 1) (.bin .Mod (.call 1 [.v 2,.v 0]) (.call 0 [.v 1])))),
 .ex (.meth 0 (.v 6) [.tup [.ix (.v 1) (.bin .Mod (.bin .Add (.bin .FloorDiv (.v 5) (.k (.int 16))) (.v 7)) (.k (.int 8))),.call 3 [.v 10]]])]
def Tl:List G3.S:=[.set 2 (.nd 0 [.v 1,.bin .Add (56:) (.bin .Mod (.v 0) (.k (.int 3)))]),.set 3 (.lst []),.forR 4 (.call 0 [.v 2]) [
 .set 5 (.call 1 [.v 0,.v 4]),
 .set 6 (.lst []),
 .cut (.forR 7 (.bin .Sub (.bin .Add (.k (.int 2)) (.bin .Mod (.v 5) (.k (.int 2)))) (.call 2 [.an (.cmp .Gt (.v 4) (78:)) (.cmp .Eq (.bin .Mod (.bin .FloorDiv (.v 5) (.k (.int 2))) (.k (.int 3))) (78:))])) VU),
 .ex (.meth 0 (.v 3) [.tup [.ix (.v 2) (.v 4),.call 4 [.v 6]]])],
 .ret (.v 3)]
def O1(K:Fg):G3.En:=⟨K,[λ_ vs H Q=>G3.rLen K vs H Q,λ_ vs H Q=>Zc vs H Q E0,λ_ vs H Q=>G3.rInt K vs H Q,λ_ vs H Q=>G3.rTupOf K vs H Q,λ_ vs H Q=>Pc K vs H Q],[G3.mApp K],[MF K],[]⟩
section
variable{P:Program}{w:World}{K:Fg}{mg:Str->Option Value}{base:Heap}{f:Addr}{fd:FuncData}
theorem P7:FnScope Sq ["_law_cell","_law_names_here"] (defScope MW):=(0:)
theorem N5(F:Fun K "_law_wood" "_law_wood" MW f fd)(G:Gm mg)(RM:Fn P w K mg base 1 "_law_mixed" ["_law_cell","_law_k"] Zc):FnOk P w K mg base CX0 2 f fd ["_law_cell","_law_names_here"] (XC K):=by
 refine G3.Fun.okC F P7 (O1 K) Tl (nk:=[G3.shSlTo]) (λX c=>⟨.cons (96:) (.cons (c.fn RM) (.cons (c.ty G3.call_int G.int PyProof.Rows.boot_int) (.cons (c.ty (r:=G3.rTupOf) (λX=>G3.call_tupOf) G.tup PyProof.Rows.boot_tuple) (.cons (Az c (r:=Pc) (λX hr=>Xx (by have:=hr.units;lia)) G.srt PyProof.Rows.boot_sorted) .nil)))),.cons (c.meth G3.m_append) .nil,.cons (c.node (r:=MF) λX=>.slTo XU) .nil⟩) (11:) (λH vs Q E h=>?_) G.rng
 .obtain⟨c,ln,ns,rfl,_⟩:=h
  rfl
 obtain⟨c,ln,ns,rfl,a3,b3,a4,ar,q⟩:=h;have m0:0<=c%3:=Int.emod_nonneg _ (18:);have m1:c%3<3:=Int.emod_lt_of_pos _ (18:);refine⟨ln,_,rfl,a3,λlk bg=>?_⟩;obtain⟨mm,bi⟩: ∃mm:Nat,1+c%3=(mm:Int):=⟨(1+c%3).toNat,by lia⟩;obtain⟨U,an⟩: ∃U,U=ns.take mm:=(51:);have ba:cutV (ns.map V.str) none (some (1+c%3))=U.map V.str:=by rw [bi,MI,an,List.map_take]
 have g1:=Qc bg (.lst (cutV (ns.map V.str) none (some (1+c%3))));have ai:upd H lk (.lst (cutV (ns.map V.str) none (some (1+c%3)))) lk=some (.lst (U.map V.str)):=by rw [<-ba];exact Qb
 generalize upd H lk (.lst (cutV (ns.map V.str) none (some (1+c%3))))=H1 at g1 ai;have b4:U.length=mm:=by rw [an,List.length_take];lia
 have bb:U.Nodup:=by rw [an];exact a4.sublist (List.take_sublist _ _)
 have ak:∀x∈U,PyData.strOk x=true:=λx hx=>ar x (List.mem_of_mem_take (by rw [<-an];exact hx));have af:(U.map V.str).length=U.length:=List.length_map ..;refine⟨λlw b5 k2 bj a5=>?_⟩;refine .l _ (SqL.of (k2 _ _ ai)) ⟨⟨by rw [af];lia,by rw [af];lia⟩,.f (λi σ H'=>∃(c4 c5 c6 Z c8 c9 J:Option V)(ks:List KdT),σ=[some (.int c),some (.ref ln),some (.ref lk),some (.ref lw),c4,c5,c6,Z,c8,c9,J]/\Same H1 H'/\H' lw=some (.lst (ks.map λk=>V.ref k.1))/\(∀k∈ks,KdH K H' lw k/\KF U k.2.2.2)/\(ks.map λk=>k.2.1)=U.take i/\∀k∈ks,H1 k.2.2.1=none) ⟨none,none,none,none,none,none,none,[],rfl,k2,bj,λk hk=>(nomatch hk),rfl,λk hk=>(nomatch hk)⟩ ?_ ?_⟩
 .rintro i σ H2 hi ⟨c4,c5,c6,Z,c8,c9,J,ks,rfl,g2,aj,aa,ab,as⟩;rw [af,Int.toNat_natCast]at hi;have bc:ks.length=i:=by
   have:=congrArg List.length ab;rw [List.length_map,List.length_take]at this;lia
  refine⟨c,_,rfl,by lia,by lia,λL f0 f1=>⟨λlr H3 k3 bn au=>?_⟩⟩;have bw:lw≠lr:=λz=>by rw [<-z,aj]at au;cases au
  have step:∀(D:Ends)(r:Nat)(σ:St)(H4:Hp),r<3->(∃(Z c8 c9 J:Option V)(Y:List PNx),σ=[some (.int c),some (.ref ln),some (.ref lk),some (.ref lw),some (.int (i:Int)),some (.int L),some (.ref lr),Z,c8,c9,J]/\RsW K U ns L lr H2 H4 r Y)->G3.setS σ 7 (.int (r:Int)) λbx=>G3.ES (O1 K) VU { D with nx:=λσ H'=>∃(Z c8 c9 J:Option V)(Y:List PNx),σ=[some (.int c),some (.ref ln),some (.ref lk),some (.ref lw),some (.int (i:Int)),some (.int L),some (.ref lr),Z,c8,c9,J]/\RsW K U ns L lr H2 H' (r+1) Y,ct:=λσ H'=>∃(Z c8 c9 J:Option V)(Y:List PNx),σ=[some (.int c),some (.ref ln),some (.ref lk),some (.ref lw),some (.int (i:Int)),some (.int L),some (.ref lr),Z,c8,c9,J]/\RsW K U ns L lr H2 H' (r+1) Y,bk:=D.nx } bx H4:=by
   rintro D r _ H4 bo ⟨Z,c8,c9,J,Y,rfl,W⟩;refine⟨.inl (54:),c,_,rfl,by lia,by lia,λnu n0 n1=>?_⟩;refine .c (λbz H'=>Same H4 H'/\∃wi:Nat,wi<=3/\(r=0->wi=0)/\bz=[some (.int c),some (.ref ln),some (.ref lk),some (.ref lw),some (.int (i:Int)),some (.int L),some (.ref lr),some (.int (r:Int)),some (.int nu),some (.int (wi:Int)),J]) ?_ ?_
   .refine⟨λpl X kl dl _=>?_⟩;have a0:0<=nu%2:=Int.emod_nonneg _ (18:);have a1:nu%2<2:=Int.emod_lt_of_pos _ (18:);have b0:0<=nu%3:=Int.emod_nonneg _ (18:);have b1:nu%3<3:=Int.emod_lt_of_pos _ (18:);rcases(show r=0\/r=1\/r=2 by lia)with rfl | rfl | rfl
    .exact .l _ (.int 0) (SqL.of dl) rfl ⟨kl,0,by lia,λ_=>rfl,rfl⟩
    .exact .l _ (.int (1+nu%2)) (SqL.of dl) rfl ⟨kl,(1+nu%2).toNat,by lia,λz=>by lia,by rw [Int.toNat_of_nonneg (6:)]⟩
    .exact .l _ (.int (nu%3)) (SqL.of dl) rfl ⟨kl,(nu%3).toNat,by lia,λz=>by lia,by rw [Int.toNat_of_nonneg (6:)]⟩
   rintro _ H5 ⟨g5,wi,b6,bp,rfl⟩;have av:=g5 _ _ (W.g _ _ (g2 _ _ ai));refine⟨⟨by lia,by lia⟩,.m (λlb j ys H'=>Same H5 H'/\H' lb=some (.lst ys)/\∃ss:List Str,ys=ss.map V.str/\ss.length=j/\∀x∈ss,x∈U) (6:) (λlb H' _ g e=>⟨g,e,[],rfl,rfl,λx hx=>(nomatch hx)⟩) (λ_ _ _ _ _=>trivial) (λlb j ys H6 hj _ a6 ⟨g6,hy,ss,ey,ao,aw⟩=>?_) λlb ys H6 a6 ⟨g6,hy,ss,ey,ao,aw⟩=>?_⟩
   .subst ey;rw [Int.toNat_natCast]at hj;refine⟨nu,_,rfl,by lia,by lia,λz z0 z1=>.l _ (SqL.of (g6 _ _ av)) ?_⟩;obtain⟨y,bq,ag⟩:=OI (xs:=U.map V.str) (k:=((U.map V.str).length:Int)) rfl (by rw [af];lia) z;obtain⟨x,hx,rfl⟩:=List.mem_map.mp bq;refine Ak (j:=((U.map V.str).length:Int)) (by rw [af];lia) ?_;refine .l _ (.str x) (SqL.of (g6 _ _ av)) ag ⟨hy,λb u e=>?_,Qb,ss++[x],by rw [List.map_append];rfl,by simp [ao],λx' hx'=>?_⟩
    .rw [Qg (Qd e a6)];exact g6 _ _ e
    .rcases List.mem_append.mp hx' with hx' | hx'
     .exact aw x' hx'
     .rw [List.mem_singleton.mp hx'];exact hx
   subst ey;rw [Int.toNat_natCast]at ao;have ap:=g5.trans g6;have br:=(g1.trans (g2.trans W.g)).trans ap;have bt:0<=(L/16+(r:Int))%8:=Int.emod_nonneg _ (18:);have b7:(L/16+(r:Int))%8<8:=Int.emod_lt_of_pos _ (18:);have a7:((L/16+(r:Int))%8).toNat<ns.length:=by lia
   have ag:atI (ns.map V.str) ((L/16+(r:Int))%8)=some (.str ns[((L/16+(r:Int))%8).toNat]):=by
    have z:=Qo (xs:=ns.map V.str) (j:=((L/16+(r:Int))%8).toNat) (v:=.str ns[((L/16+(r:Int))%8).toNat]) (by rw [List.getElem?_map,List.getElem?_eq_getElem a7];rfl);rw [Int.toNat_of_nonneg bt]at z;exact z
   generalize bu:ns[((L/16+(r:Int))%8).toNat]=nm at ag;have ax:=ap _ _ W.hl;have ay:=W.n;refine⟨G3.tyL ax,.l _ (.str nm) (br.seq a3) ag<| .l _ (SqL.of hy) λpb X1 e1 d1=>⟨λpr X2 e2 d2 _=>?_⟩⟩;have ac:=e1.trans e2;have ae:=ac _ _ ax;refine⟨lr,_,_,rfl,rfl,ae,by rw [List.length_map,QT];lia,?_⟩;refine⟨_,_,_,_,Y++[(pr,nm,pb,ss)],rfl,λz u e=>?_,by rw [Qb,List.map_append];rfl,by rw [List.length_append,ay];rfl,λt ht=>?_,λj t e=>?_,λt e=>?_⟩
   .rw [Qg (Qd e au)];exact ac _ _ (ap _ _ (W.g _ _ e))
   .rcases List.mem_append.mp ht with ht | ht
    .obtain⟨h1,h2⟩:=W.at_ t ht;have a8:=h1.same (ap.trans ac);exact⟨⟨a8.1.put ae,a8.2.put ae⟩,h2⟩
    .rw [List.mem_singleton.mp ht];exact⟨⟨SqT.put d2 ae,SqT.put (e2.seqT d1) ae⟩,aw,by show ss.length<=3;lia⟩
   .by_cases hj:j<r
    .rw [List.getElem?_append_left (6:)]at e;exact W.nm j t e
    .have a9:j=r:=by
      have:=(List.getElem?_eq_some_iff.mp e).1;rw [List.length_append,List.length_singleton]at this;lia
     rw [List.getElem?_append_right (6:),ay,a9,Nat.sub_self]at e;obtain rfl:=Option.some.inj e;rw [a9,<-bu];exact List.getElem?_eq_getElem a7
   .by_cases bd:r=0
    .have be:Y=[]:=List.length_eq_zero_iff.mp (6:);rw [be]at e;obtain rfl:=Option.some.inj e;have:ss.length=0:=by rw [ao];exact bp bd
     exact List.length_eq_zero_iff.mp this
    .rw [List.getElem?_append_left (6:)]at e;exact W.z t e
  refine .c (λσ H'=>∃(Z c8 c9 J:Option V)(Y:List PNx)(r:Nat),σ=[some (.int c),some (.ref ln),some (.ref lk),some (.ref lw),some (.int (i:Int)),some (.int L),some (.ref lr),Z,c8,c9,J]/\1<=r/\r<=3/\RsW K U ns L lr H2 H' r Y) ?_ ?_
  .have p0:0<=L%2:=Int.emod_nonneg _ (18:);have p1:L%2<2:=Int.emod_lt_of_pos _ (18:);have h0:RsW K U ns L lr H2 H3 0 []:=⟨k3,bn,rfl,λt ht=>(nomatch ht),λj t h=>(nomatch h),λt h=>(nomatch h)⟩;refine G3.iteI (λ_=>?_) λ_=>?_
   .have hb:∀b:Bool,1<=2+L%2-(if b then 1 else 0)/\2+L%2-(if b then 1 else 0)<=3:=λb=>by cases b<;>simp<;>lia
    obtain⟨b1,b2⟩:=hb (decide (L/2%3=0));refine⟨⟨?_,?_⟩,.f (λj σ H'=>∃(Z c8 c9 J:Option V)(Y:List PNx),σ=[some (.int c),some (.ref ln),some (.ref lk),some (.ref lw),some (.int (i:Int)),some (.int L),some (.ref lr),Z,c8,c9,J]/\RsW K U ns L lr H2 H' j Y) ⟨_,_,_,_,[],rfl,h0⟩ (λj σ H' hj h=>step _ j σ H' ?_ h) λσ H' ⟨Z,c8,c9,J,Y,e,W⟩=>⟨Z,c8,c9,J,Y,_,e,?_,?_,W⟩⟩
    all_goals (generalize 2+L%2-(if decide (L/2%3=0)=true then 1 else 0)=m at*;lia)
   .refine⟨⟨?_,?_⟩,.f (λj σ H'=>∃(Z c8 c9 J:Option V)(Y:List PNx),σ=[some (.int c),some (.ref ln),some (.ref lk),some (.ref lw),some (.int (i:Int)),some (.int L),some (.ref lr),Z,c8,c9,J]/\RsW K U ns L lr H2 H' j Y) ⟨_,_,_,_,[],rfl,h0⟩ (λj σ H' hj h=>step _ j σ H' ?_ h) λσ H' ⟨Z,c8,c9,J,Y,e,W⟩=>⟨Z,c8,c9,J,Y,_,e,?_,?_,W⟩⟩
    all_goals (try simp only [Bool.false_eq_true,if_false,Int.sub_zero]at*;lia)
  rintro _ H4 ⟨Z,c8,c9,J,Y,r,rfl,b8,bo,W⟩;have ay:=W.n;have ag:atI (U.map V.str) (i:Int)=some (.str U[i]):=Qo (by rw [List.getElem?_map,List.getElem?_eq_getElem hi];rfl);have az:(Y.map λt=>t.2.1).Nodup:=by
   rw [List.Nodup,List.pairwise_iff_getElem];intro a b ha hb b9;rw [List.length_map]at ha hb;rw [List.getElem_map,List.getElem_map];intro e;have h1:=W.nm a Y[a] (List.getElem?_eq_getElem ha);have h2:=W.nm b Y[b] (List.getElem?_eq_getElem hb);rw [e,<-h2]at h1;have bv:((L/16+(a:Int))%8).toNat<ns.length:=by
    have:=Int.emod_lt_of_pos (L/16+(a:Int)) (show(0:Int)<8 by decide);have:=Int.emod_nonneg (L/16+(a:Int)) (show(8:Int)≠0 by decide);lia
   have:=(List.getElem?_inj bv a4).mp h1;lia
  have al:=W.g _ _ aj;refine⟨G3.tyL al,.l _ (.str U[i]) (SqL.of (W.g _ _ (g2 _ _ ai))) ag ⟨lr,Y,rfl,SqL.of W.hl,λt ht=>⟨(W.at_ t ht).1.1,(W.at_ t ht).1.2,λx hx=>ak x ((W.at_ t ht).2.1 x hx)⟩,az,by lia,λout po ad _ aq=>⟨λpk X e2 d2 _=>?_⟩⟩⟩;have e1:=Qc aq (.lst (out.map λt=>V.ref t.1));have ac:=e1.trans e2;have am:=ac _ _ al;have bf:po≠lw:=λz=>by rw [z,al]at aq;cases aq
  refine⟨lw,_,_,rfl,rfl,am,by rw [List.length_map,QT];lia,?_⟩;have ah:∀t∈out,t∈Y:=λt ht=>ad.mem_iff.mp ht;refine⟨_,_,_,_,_,_,_,ks++[(pk,U[i],po,out)],rfl,λz u e=>?_,by rw [Qb,List.map_append];rfl,λk hk=>?_,?_,λk hk=>?_⟩
  .rw [Qg (Qd e a5)];exact ac _ _ (W.g _ _ (g2 _ _ e))
  .rcases List.mem_append.mp hk with hk | hk
   .exact⟨KdH.put am ((aa k hk).1.same (W.g.trans ac)),(aa k hk).2⟩
   .rw [List.mem_singleton.mp hk];refine⟨KdH.put am ⟨d2,e2 _ _ Qb,bf,λt ht=>((W.at_ t (ah t ht)).1).same ac⟩,⟨⟨?_,?_,λt ht=>?_,λt ht x hx=>?_,λt ht=>?_⟩,?_,λt ht=>(W.at_ t (ah t ht)).2.1,λt ht=>(W.at_ t (ah t ht)).2.2⟩⟩
    .exact(ad.map _).nodup_iff.mpr az
    .show out.length<=10;rw [ad.length_eq];lia
    .obtain⟨j,hj,e⟩:=List.getElem_of_mem (ah t ht);have:=W.nm j t (by rw [List.getElem?_eq_getElem hj,e]);exact ar _ (List.mem_of_getElem? this)
    .exact ak x ((W.at_ t (ah t ht)).2.1 x hx)
    .have:=(W.at_ t (ah t ht)).2.2;lia
    .have h0:0<Y.length:=by lia
     exact⟨Y[0],ad.mem_iff.mpr (List.getElem_mem h0),W.z Y[0] (List.getElem?_eq_getElem h0)⟩
  .rw [List.map_append,ab,List.take_add_one,List.getElem?_eq_getElem hi];rfl
  .rcases List.mem_append.mp hk with hk | hk
   .exact as k hk
   .rw [List.mem_singleton.mp hk];exact Ve (g2.trans W.g) aq
 .rintro σ H2 ⟨c4,c5,c6,Z,c8,c9,J,ks,rfl,g2,aj,aa,ab,as⟩;rw [af,Int.toNat_natCast,List.take_of_length_le (7:)]at ab;have bc:ks.length=U.length:=by
   have:=congrArg List.length ab
   rwa [List.length_map]at this
  exact q lw H2 ks (g1.trans g2) ⟨SqL.of aj,λk hk=>⟨(aa k hk).1.1,SqL.of (aa k hk).1.2.1,(aa k hk).1.2.2.2⟩⟩ ⟨⟨by rw [ab];exact bb,by lia,λk hk=>(aa k hk).2.ok⟩,by lia,by lia,λk hk=>ak _ (by rw [<-ab];exact List.mem_map.mpr ⟨k,hk,rfl⟩),λk hk=>by rw [ab];exact(aa k hk).2⟩ (Ve g1 a5) λk hk=>Ve g1 (as k hk)
end
end K65
namespace K65
open PySem L2 TM TT K9 K11 G3
inductive DictW(K:Fg)(p:Addr)(H:Hp)(Q:VK):Prop where
 | w (ks:List KdT) (h:WoodAt K H p ks) (ho:WoodOk ks) (k:∀d H',Same H H'->H' d=some (.dK (wkv ks))->Q (.ref d) H'):DictW K p H Q
def Xr(K:Fg)(vs:List V)(H:Hp)(Q:VK):Prop:=match vs with
 | [.ref p]=>DictW K p H Q
 | _=>False
theorem Jp(X:Cx)(hc:X.calm=true):QR X (.type "dict") (Xr X.K):=by
 intro pins s σ H xs L Q I r h;unfold Xr at h;split at h
 .cases h with
  | w ks G J k=>exact Zp hc pins s σ H _ L Q I r ⟨_,wts ks,rfl,wdA G,wdB G,wdC J,wdD J,λd U=>k d _ (Qc U _) Qb⟩
 .exact h.elim
inductive GetW(d:Addr)(kind:Str)(H:Hp)(Q:VK):Prop where
 | g (ks:List KdT) (k:KdT) (h:H d=some (.dK (wkv ks))) (e:ks.find? (75:)=some k) (q:Q (.ref k.2.2.1) H):GetW d kind H Q
def Nv(_:Fg):List V->Hp->VK->Prop:=on2 λx y H Q=>match x,y with
 | .ref d,.str kind=>GetW d kind H Q
 | _,_=>False
theorem JU{k:Nat}(X:Cx)(hr:Room k X.A):NodeOk X shIx (Nv X.K):=.plain λe es U G h=>by
 unfold shIx at G;split at G
 .split at G
  .rename_i J;cases G;obtain⟨t,u,rfl,h1,h2⟩:=h.two;refine⟨QW (YM (Z8 hr) (QO h1) (QO h2) (LG J)) λσ H Q q=>⟨_,q,λx H1 q=>⟨_,q,λy H2 q=>?_⟩⟩,rfl⟩;cases x with
   | ref d=>
    cases y with
    | str L=>
     cases q with
     | g ks k h e q=>exact⟨d,_,rfl,Ls h e,q⟩
    | _=>exact False.elim q
   | _=>cases y<;>exact False.elim q
  .cases G
 .cases G
end K65
namespace K65
open PySem L2 TM TT K9 K11
def Ty(ks:List KdT)(cls:List Cl):Nat->Tm->Str->Prop
 | 0,_,_=>False
 | n+1,t,kind=>(∃c∈cls,t=OD (c.1:Int) (c.2.1:Int)/\c.2.2=kind)\/∃nm k a bs kinds,t=.node (.put nm k a) 0 bs/\Qv ks kind nm=some kinds/\bs.length=kinds.length/\∀(i:Nat) b kd,bs[i]?=some b->kinds[i]?=some kd->Ty ks cls n b kd
inductive PrAll(K:Fg)(H:Hp):List V->List (Nat×Nat)->Prop where
 | nil:PrAll K H [] []
 | cons {p:Addr} {c:Nat×Nat} {vs:List V} {cs:List (Nat×Nat)}:SqT K H p [.int (c.1:Int),.int (c.2:Int)]->PrAll K H vs cs->PrAll K H (.ref p::vs) (c::cs)
theorem PrAll.mono{K:Fg}{H H':Hp}(k:∀a xs,SqT K H a xs->SqT K H' a xs):∀{vs:List V}{cs:List (Nat×Nat)},PrAll K H vs cs->PrAll K H' vs cs
 | _,_,.nil=>.nil
 | _,_,.cons h r=>.cons (k _ _ h) (r.mono k)
theorem PrAll.snoc{K:Fg}{H:Hp}{p:Addr}{c:Nat×Nat}(h:SqT K H p [.int (c.1:Int),.int (c.2:Int)]):∀{vs:List V}{cs:List (Nat×Nat)},PrAll K H vs cs->PrAll K H (vs++[.ref p]) (cs++[c])
 | _,_,.nil=>.cons h .nil
 | _,_,.cons h' r=>.cons h' (r.snoc h)
theorem PrAll.at{K:Fg}{H:Hp}:∀{vs:List V}{cs:List (Nat×Nat)},PrAll K H vs cs->∀(i:Nat),i<vs.length->∃p c,vs[i]?=some (.ref p)/\c∈cs/\SqT K H p [.int (c.1:Int),.int (c.2:Int)]
 | _,_,.nil,i,h=>absurd h (Nat.not_lt_zero _)
 | _,_,.cons h r,0,_=>⟨_,_,rfl,List.mem_cons_self,h⟩
 | _,_,.cons h r,i+1,hi=>by
  obtain⟨p,c,e,m,q⟩:=r.at i (Nat.lt_of_succ_lt_succ hi);exact⟨p,c,e,List.mem_cons_of_mem _ m,q⟩
theorem PrAll.rd{K:Fg}{H:Hp}:∀{vs:List V}{cs:List (Nat×Nat)},PrAll K H vs cs->RdAll K H vs (cs.map λc=>.tuple [.int c.1,.int c.2])
 | _,_,.nil=>.nil
 | _,_,.cons h r=>.cons (.tup h (.cons (.int _) (.cons (.int _) .nil))) r.rd
theorem ClAll.at{K:Fg}{H:Hp}:∀{vs:List V}{cs:List Cl},ClAll K H vs cs->∀(i:Nat),i<vs.length->∃p c,vs[i]?=some (.ref p)/\c∈cs/\SqT K H p [.int (c.1:Int),.int (c.2.1:Int),.str c.2.2]
 | _,_,.nil,i,h=>absurd h (Nat.not_lt_zero _)
 | _,_,.cons h r,0,_=>⟨_,_,rfl,List.mem_cons_self,h⟩
 | _,_,.cons h r,i+1,hi=>by
  obtain⟨p,c,e,m,q⟩:=r.at i (Nat.lt_of_succ_lt_succ hi);exact⟨p,c,e,List.mem_cons_of_mem _ m,q⟩
theorem P0{K:Fg}{i j:Int}{H:Hp}{Q:VK}(h:0<j)(k:Q (.int (i%j)) H):G3.rB K .Mod (.int i) (.int j) H Q:=G3.modI h k
theorem TJ(ss:List Str):PyData.eqv (.tuple (ss.map .str)) (.tuple [])=decide (ss=[]):=by
 cases ss with
 | nil=>rfl
 | cons a r=>simp [PyData.eqv,PyData.eqvAll]
theorem WF.find{ks:List KdT}{kind:Str}(h:∃kd∈ks,kd.2.1=kind):∃k0,ks.find? (75:)=some k0:=by
 obtain⟨kd,G,J⟩:=h;cases e:ks.find? (λk=>decide (k.2.1=kind))with
 | none=>exact absurd J (by simpa using List.find?_eq_none.mp e kd G)
 | some k0=>exact⟨k0,rfl⟩
theorem NM{ks:List KdT}{kind:Str}{k0:KdT}{r:PNx}(ef:ks.find? (75:)=some k0)(hO:RowsOk k0.2.2.2)(hr:r∈k0.2.2.2):Qv ks kind r.2.1=some r.2.2.2:=by
 have e1:rowsK ks kind=k0.2.2.2:=by unfold rowsK;rw [ef];rfl
 unfold Qv;rw [e1];have nd:=hO.nd;generalize k0.2.2.2=G at nd hr
 induction G with
 | nil=>cases hr
 | cons a l J=>
  rw [List.find?_cons];rcases List.mem_cons.mp hr with z | z
  .rw [<-z,decide_eq_true rfl];rfl
  .rw [List.map_cons,List.nodup_cons]at nd;have:a.2.1≠r.2.1:=λq=>nd.1 (by rw [q];exact List.mem_map_of_mem (f:=λt:PNx=>t.2.1) z);rw [decide_eq_false this];exact J nd.2 z
abbrev RF:List Str:=["_law_cell","_law_k","_law_deep","_law_kind","_law_wood_here","_law_calls_here","_law_keep","_law_number","_law_fit","_law_rows","_law_full","_law_name","_law_branches","_law_parts","_law_j","_law_kept","_law_add"]
abbrev Ui:List Str:=["_law_cell","_law_k","_law_deep","_law_kind","_law_wood_here","_law_calls_here","_law_keep"]
def ZQ(K:Fg)(n:Nat):Sp:=λvs H Q _=>∃(c k:Int)(d:Nat)(kind:Str)(lw lc:Addr)(ks:List KdT)(cv:List V)(cls:List Cl)(keep:Bool),d+1=n/\d<=3/\vs=[.int c,.int k,.int (d:Int),.str kind,.ref lw,.ref lc,.bl keep]/\0<=k/\(k+1)*4^d<=1000/\WoodAt K H lw ks/\WF ks/\(∃kd∈ks,kd.2.1=kind)/\SqL K H lc cv/\ClAll K H cv cls/\cls.length<=100/\
 ∀(v:V)(H':Hp)(t:Tm),Same H H'->TmV K H' v t->Ty ks cls n t kind->Q v H'
def R4:List G3.S:=[.set 7 (.call 1 [.v 0,.v 1]),.setC 8 (.compI 1 (.v 5) [3] (.cmp .Eq (.ix (.v 0) (.k (.int 2))) (.v 1)) (.nd 0 [.v 0,.k (.int 2)])),.cut (.ite (.an (.nd 1 [.v 8,.lst []]) (.cmp .Lt (.bin .Mod (.v 7) (.k (.int 5))) (.k (.int 2)))) [.ret (.bin .Add (.tup [.k (.str "call")]) (.ix (.v 8) (.bin .Mod (.bin .FloorDiv (.v 7) (.k (.int 5))) (.call 2 [.v 8]))))] []),.setC 9 (.compI 1 (.nd 2 [.call 3 [.v 4],.v 3]) [2] (.oo (.nd 3 [.ix (.v 0) (56:),.tup []]) (.cmp .Gt (.v 1) (78:))) (.v 0)),.setC 10 (.compI 1 (.v 9) [] (.nd 1 [.ix (.v 0) (56:),.tup []]) (.v 0)),.cut (.ite (.an (.nd 1 [.v 10,.lst []]) (.cmp .Gt (.bin .Mod (.bin .FloorDiv (.v 7) (.k (.int 32))) (.k (.int 4))) (78:))) [.set 9 (.v 10)] []),.unp [11,12] (.ix (.v 9) (.bin .Mod (.bin .FloorDiv (.v 7) (.k (.int 8192))) (.call 2 [.v 9]))),.set 13 (.lst []),.forR 14 (.call 2 [.v 12]) [.ex (.meth 0 (.v 13) [.call 0 [.v 0,.bin .Add (.bin .Add (.bin .Mult (.k (.int 3)) (.v 1)) (.v 14)) (56:),.bin .Sub (.v 2) (56:),.ix (.v 12) (.v 14),.v 4,.v 5,.v 6]])],.cut (.set 15 (.an (.v 6) (.cmp .Eq (.bin .Mod (.bin .FloorDiv (.v 7) (.k (.int 1024))) (.k (.int 2))) (56:)))),.cut (.set 16 (.ix (.lst [.k (.int 0),.bin .Sub (.bin .Mod (.bin .FloorDiv (.v 7) (.k (.int 2048))) (.k (.int 19))) (.k (.int 9)),.call 4 [.v 0]]) (.bin .Mod (.bin .FloorDiv (.v 7) (.k (.int 64))) (.k (.int 3))))),.ret (.tup [.k (.str "put"),.v 11,.v 15,.v 16,.call 5 [.v 13]])]
def R3(K:Fg)(n:Nat):G3.En:=⟨K,[λ_ vs H Q=>ZQ K n vs H Q E0,λ_ vs H Q=>Zc vs H Q E0,λ_ vs H Q=>G3.rLen K vs H Q,λ_ vs H Q=>Xr K vs H Q,λ_ vs H Q=>YT vs H Q E0,λ_ vs H Q=>G3.rTupOf K vs H Q],[G3.mApp K],[G3.on2 λx y H Q=>G3.asI y λi=>Nu K x none (some i) H Q,G3.on2 (G3.EqD K true),Nv K,G3.on2 (G3.EqD K false)],[]⟩
section
variable{P:Program}{w:World}{K:Fg}{mg:Str->Option Value}{base:Heap}{f:Addr}{fd:FuncData}
theorem Oh:FnScope RF Ui (defScope Ja):=(0:)
theorem Na{n:Nat}(F:Fun K "_law_typed" "_law_typed" Ja f fd)(G:Gm mg)(RM:Fn P w K mg base 1 "_law_mixed" ["_law_cell","_law_k"] Zc)(RG:Fn P w K mg base 1 "_law_great" ["_law_cell"] YT)(R:Fn P w K mg base (n+1) "_law_typed" Ui (ZQ K n)):FnOk P w K mg base CX0 (n+2) f fd Ui (ZQ K (n+1)):=by
 refine G3.Fun.okC F Oh (R3 K n) R4 (nk:=[G3.shSlTo,G3.shCmp .NotEq,G3.shIx,G3.shCmp .Eq]) (λX c=>⟨.cons (c.fn R (7:)) (.cons (c.fn RM (6:)) (.cons (96:) (.cons (c.tyC Jp G.dct PyProof.Rows.boot_dict) (.cons (c.fn RG (6:)) (.cons (c.ty (λ_=>G3.call_tupOf) G.tup PyProof.Rows.boot_tuple) .nil))))),.cons (c.meth G3.m_append) .nil,.cons (c.node (r:=λK=>G3.on2 λx y H Q=>G3.asI y λi=>Nu K x none (some i) H Q) λX=>.slTo Nj) (.cons c.neD (.cons (c.nodeR JU) (.cons c.eqD .nil)))⟩) (11:) (λH vs Q E h=>?_) G.rng
 .obtain⟨c,k,d,U,lw,lc,ks,cv,cls,keep,_,_,rfl,_⟩:=h
  rfl
 obtain⟨c,k,d,U,lw,lc,ks,cv,cls,keep,bf,bg,rfl,a5,bi,hW,an,au,av,ao,a6,q⟩:=h;have bj:k<=1000:=by
  have:(1:Int)<=4^d:=by
   rcases(show d=0\/d=1\/d=2\/d=3 by lia)with rfl | rfl | rfl | rfl<;>decide
  have:=Int.mul_le_mul_of_nonneg_left this (show(0:Int)<=k+1 by lia);lia
 have bd:=ao.len;refine⟨c,k,rfl,a5,by lia,λx x0 x1=>.l cv av<| .s (λi ys H'=>∃fs:List (Nat×Nat),PrAll K H' ys fs/\∀f∈fs,∃c∈cls,c.1=f.1/\c.2.1=f.2/\c.2.2=U) (λH1 g=>⟨[],.nil,λf hf=>(nomatch hf)⟩) (λacc i ys l H1 H2 ⟨fs,h1,h2⟩ _ _ _ k=>⟨fs,h1.mono k,h2⟩) (6:) (λi ys H1 hi _ g ⟨fs,h1,h2⟩=>?_) λl8 fv H1 g1 e8 ⟨fs,ap,a7⟩=>?_⟩
 .obtain⟨p,cl,ep,Z,hp⟩:=ao.at i hi;have ex:(cv[i]?).getD .non=.ref p:=by rw [ep];rfl
  rw [ex];refine .t _ _ (g.seqT hp) rfl<|G3.iteI (λz=>?_) λz=>⟨λ_ _ e=>e,fs,h1,h2⟩;refine⟨p,_,rfl,g.seqT hp,(by show ¬(HT.sIx 3 0 none=0/\HT.sIx 3 3 (some 2)=3);decide),λp' ak=>⟨Qc ak _,fs++[(cl.1,cl.2.1)],?_,?_⟩⟩
  .exact PrAll.snoc (c:=(cl.1,cl.2.1)) (SqT.of Qb) (h1.mono λ_ _ h=>(Qc ak _).seqT h)
  .intro f hf;rcases List.mem_append.mp hf with z' | z'
   .exact h2 f z'
   .rw [List.mem_singleton.mp z'];exact⟨cl,Z,rfl,rfl,z⟩
 have lay:∀fs:List (Nat×Nat),PyData.canLayAll0 (fs.map λc=>.tuple [.int c.1,.int c.2])=true:=λfs=>by
  induction fs with
  | nil=>rfl
  | cons a r ih=>simp only [List.map_cons,PyData.canLayAll0,PyData.canLay0,ih,Bool.and_self]
 refine .c (λai H'=>ai=[some (.int c),some (.int k),some (.int (d:Int)),some (.str U),some (.ref lw),some (.ref lc),some (.bl keep),some (.int x),some (.ref l8),none,none,none,none,none,none,none,none]/\Same H H') ?_ ?_
 .refine⟨λp2 X2 k2 d2 n2=>.e (.list (fs.map λc=>.tuple [.int c.1,.int c.2])) (.list []) (.lst (SqL.of (k2 _ _ e8)) (ap.mono λ_ _=>k2.seqT).rd) (.lst (SqL.of d2) .nil) (by rw [PyData.canLay0];exact lay fs) (by rfl) (Nat.le_trans (Nat.min_le_right _ _) (18:)) ?_⟩;have gE:=g1.trans k2;cases ap with
  | nil=>exact⟨rfl,gE⟩
  | @cons p c0 vs cs hp J=>
   refine G3.iteI (λz=>?_) λz=>⟨rfl,gE⟩;have hP:PrAll K X2 (.ref p::vs) (c0::cs):=(PrAll.cons hp J).mono λ_ _=>k2.seqT;have l0:(0:Int)<(((V.ref p::vs).length:Nat):Int):=by simp
   have m0:=Int.emod_nonneg (x/5) (Int.ne_of_gt l0);have m1:=Int.emod_lt_of_pos (x/5) l0;obtain⟨p',c',ep,Z,ak⟩:=hP.at ((x/5)%(((V.ref p::vs).length:Nat):Int)).toNat (6:);refine⟨λp3 X3 k3 d3 e3=>.l _ (SqL.of ((k2.trans k3) _ _ e8))<| .l _ (.ref p') (SqL.of ((k2.trans k3) _ _ e8)) (by rw [<-Int.toNat_of_nonneg m0];exact Qo ep)<| .a _ _ d3 (k3.seqT ak) (by show 1+2<=sizeLine;decide) λp4 X4 k4 d4=>?_⟩;obtain⟨c1,a8,ea,eb,ec⟩:=a7 c' Z;refine q (.ref p4) X4 (OD (c'.1:Int) (c'.2:Int)) (gE.trans (k3.trans k4)) (.call d4) (.inl ⟨c1,a8,by rw [ea,eb],ec⟩)
 rintro _ H2 ⟨rfl,g2⟩;obtain⟨k0,ef⟩:=WF.find au;have aj:=List.mem_of_find?_eq_some ef;have aa:=an.kf k0 aj;have ab:∀r∈k0.2.2.2,RowAt K H r:=(hW.2 k0 aj).2.2;have aw:∀r∈k0.2.2.2,PyData.canLay0 (.tuple (r.2.2.2.map .str))=true:=λr J=>by rw [PyData.canLay0];exact YX _ (aa.ok.kn r J)
 refine .w ks (hW.same g2) an.ok λdd H3 g3 ax=>.g ks k0 ax ef<| .l (k0.2.2.2.map λt:PNx=>V.ref t.1) ((g2.trans g3).seq (hW.2 k0 aj).2.1)<| .s (λi ys H'=>∃Y:List PNx,ys=Y.map (λt:PNx=>V.ref t.1)/\(∀r∈Y,r∈k0.2.2.2/\(r.2.2.2=[]\/0<d))/\Y.length<=i/\∀r∈k0.2.2.2.take i,r.2.2.2=[]->r∈Y) (λH1 g=>⟨[],rfl,λr J=>(nomatch J),Nat.le_refl _,λr J=>(by simp at J)⟩) (λacc i ys l H1 H2 h _ _ _ _=>h) (by rw [List.length_map];have:=aa.ok.len;lia) (λi ys H1 hi _ g h=>?_) λl9 rv H4 g4 e9 h=>?_
 .obtain⟨Y,ey,h1,hz,h2⟩:=h;rw [List.length_map]at hi;have ei:=List.getElem?_eq_getElem hi;have Z:=List.getElem_mem hi;generalize k0.2.2.2[i]=r at ei Z;have ex:((k0.2.2.2.map λt:PNx=>V.ref t.1)[i]?).getD .non=.ref r.1:=by rw [List.getElem?_map,ei];rfl
  rw [ex];have J:=(ab r Z).same (g2.trans (g3.trans g));have tk:∀x∈k0.2.2.2.take (i+1),x∈k0.2.2.2.take i\/x=r:=λx hx=>by
   rw [List.take_add_one,ei]at hx
   simpa using hx
  have ad:(r.2.2.2=[]\/0<d)->∃L:List PNx,ys++[V.ref r.1]=L.map (λt:PNx=>V.ref t.1)/\(∀r∈L,r∈k0.2.2.2/\(r.2.2.2=[]\/0<d))/\L.length<=i+1/\∀r∈k0.2.2.2.take (i+1),r.2.2.2=[]->r∈L:=λz=>⟨Y++[r],by rw [ey,List.map_append];rfl,λx hx=>by
   rcases List.mem_append.mp hx with y | y
   .exact h1 x y
   .rw [List.mem_singleton.mp y];exact⟨Z,z⟩,by rw [List.length_append];exact Nat.succ_le_succ hz,λx hx e=>by
   rcases tk x hx with y | y
   .exact List.mem_append_left _ (h2 x y e)
   .rw [y];simp⟩
  refine .t _ _ J.1 rfl ⟨λp1 X1 k1 d1 e1=>.e (.tuple (r.2.2.2.map .str)) (.tuple []) (.tup (k1.seqT J.2) (YV _)) (.tup d1 .nil) (aw r Z) rfl (Nat.le_trans (Nat.min_le_right _ _) (18:)) ?_⟩;show cond (PyData.eqv (.tuple (r.2.2.2.map .str)) (.tuple [])) _ _;rw [TJ];refine G3.iteI (λz=>⟨k1,ad (.inl z)⟩) λz=>G3.iteI (λy=>⟨k1,ad (.inr (6:))⟩) λy=>⟨k1,Y,ey,h1,by lia,λx hx e=>?_⟩;rcases tk x hx with y | y
  .exact h2 x y e
  .exact absurd (y ▸ e) z
 obtain⟨Y,rfl,h1,hz,h2⟩:=h;rw [List.length_map]at hz;have be:=aa.ok.len;have al:Y≠[]:=λz=>by
  obtain⟨r,J,hb⟩:=aa.bare;have:=h2 r (by rw [List.length_map,List.take_length];exact J) hb;rw [z]at this;cases this
 have gA:=g2.trans (g3.trans g4);refine .l (Y.map λt:PNx=>V.ref t.1) (SqL.of e9)<| .s (λi ys H'=>∃fs:List PNx,ys=fs.map (λt:PNx=>V.ref t.1)/\∀r∈fs,r∈Y) (λH1 g=>⟨[],rfl,λr J=>(nomatch J)⟩) (λacc i ys l H1 H2 h _ _ _ _=>h) (36:) (λi ys H1 hi _ g h=>?_) λac rv H5 g5 aq h=>?_
 .obtain⟨fs,ey,f1⟩:=h;rw [List.length_map]at hi;have ei:=List.getElem?_eq_getElem hi;have Z:=List.getElem_mem hi;generalize Y[i]=r at ei Z;have ex:((Y.map λt:PNx=>V.ref t.1)[i]?).getD .non=.ref r.1:=by rw [List.getElem?_map,ei];rfl
  rw [ex];have ay:=(h1 r Z).1;have J:=(ab r ay).same (gA.trans g);refine .t _ _ J.1 rfl ⟨λp1 X1 k1 d1 e1=>.e (.tuple (r.2.2.2.map .str)) (.tuple []) (.tup (k1.seqT J.2) (YV _)) (.tup d1 .nil) (aw r ay) rfl (Nat.le_trans (Nat.min_le_right _ _) (18:)) ?_⟩;show cond (!PyData.eqv (.tuple (r.2.2.2.map .str)) (.tuple [])) _ _;cases PyData.eqv (.tuple (r.2.2.2.map .str)) (.tuple [])with
  | true=>exact⟨k1,fs,ey,f1⟩
  | false=>exact⟨k1,fs++[r],by rw [ey,List.map_append];rfl,λx hx=>by
   rcases List.mem_append.mp hx with y | y
   .exact f1 x y
   .rw [List.mem_singleton.mp y];exact Z⟩
 obtain⟨fs,rfl,f1⟩:=h;have gB:=gA.trans g5;refine .c (λai H'=>∃l' L,ai=[some (.int c),some (.int k),some (.int (d:Int)),some (.str U),some (.ref lw),some (.ref lc),some (.bl keep),some (.int x),some (.ref l8),some (.ref l'),some (.ref ac),none,none,none,none,none,none]/\Same H H'/\H' l'=some (.lst (L.map λt:PNx=>V.ref t.1))/\L≠[]/\∀r∈L,r∈Y) ?_ ?_
 .refine⟨λp2 X2 k2 d2 n2=>.e (.list (fs.map Z3)) (.list []) (.lst (SqL.of (k2 _ _ aq)) (Xt λr J=>(ab r (h1 r (f1 r J)).1).same (gB.trans k2))) (.lst (SqL.of d2) .nil) (by rw [PyData.canLay0];exact U2 (λr J=>aa.ok.nm r (h1 r (f1 r J)).1) λr J=>aa.ok.kn r (h1 r (f1 r J)).1) rfl (Nat.le_trans (Nat.min_le_right _ _) (18:)) ?_⟩;have am:∃l' L,[some (.int c),some (.int k),some (.int (d:Int)),some (.str U),some (.ref lw),some (.ref lc),some (.bl keep),some (.int x),some (.ref l8),some (.ref l9),some (.ref ac),none,none,none,none,none,none]=([some (.int c),some (.int k),some (.int (d:Int)),some (.str U),some (.ref lw),some (.ref lc),some (.bl keep),some (.int x),some (.ref l8),some (.ref l'),some (.ref ac),none,none,none,none,none,none]:St)/\Same H X2/\X2 l'=some (.lst (L.map λt:PNx=>V.ref t.1))/\L≠[]/\∀r∈L,r∈Y:=⟨l9,Y,rfl,gB.trans k2,(g5.trans k2) _ _ e9,al,λr J=>J⟩;cases fs with
  | nil=>exact am
  | cons a fs=>exact G3.iteI (λz=>⟨ac,a::fs,rfl,gB.trans k2,k2 _ _ aq,by simp,f1⟩) λz=>am
 clear e9 aq g5 gA gB g4 g3 ax e8 g1 ap al h2;rintro _ H6 ⟨l',L,rfl,g6,e9,al,a9⟩;have l0:(0:Int)<((L.map λt:PNx=>V.ref t.1).length:Nat):=by
  rw [List.length_map];cases L with
  | nil=>exact absurd rfl al
  | cons a l=>simp
 have m0:=Int.emod_nonneg (x/8192) (Int.ne_of_gt l0);have m1:=Int.emod_lt_of_pos (x/8192) l0;obtain⟨ii,az⟩: ∃ii:Nat,x/8192%(((L.map λt:PNx=>V.ref t.1).length:Nat):Int)=(ii:Int):=⟨_,(Int.toNat_of_nonneg m0).symm⟩;have a0:ii<L.length:=by rw [List.length_map]at m1 az;lia
 have ei:=List.getElem?_eq_getElem a0;have Z:=List.getElem_mem a0;generalize L[ii]=r at ei Z;have af:=h1 r (a9 r Z);have J:=(ab r af.1).same g6;have bn:=aa.w3 r af.1;refine .l _ (SqL.of e9)<|P0 l0<| .l _ (.ref r.1) (SqL.of e9) (by rw [az];exact Qo (by rw [List.getElem?_map,ei];rfl))<| .u _ J.1 ⟨λae H7 k7 ba a1=>.t _ (k7.seqT J.2) ⟨⟨by rw [List.length_map];lia,by rw [List.length_map];lia⟩,?_⟩⟩;rw [List.length_map,Int.toNat_natCast];have a4:H ae=none:=by
  cases e:H ae with
  | none=>rfl
  | some o=>rw [g6 _ _ e]at a1;cases a1
 refine .f (λj σ H'=>∃ag vs ts,σ=[some (.int c),some (.int k),some (.int (d:Int)),some (.str U),some (.ref lw),some (.ref lc),some (.bl keep),some (.int x),some (.ref l8),some (.ref l'),some (.ref ac),some (.str r.2.1),some (.ref r.2.2.1),some (.ref ae),ag,none,none]/\Same H H'/\H' ae=some (.lst vs)/\TmAll K H' vs ts/\ts.length=j/\∀(i:Nat) b kd,ts[i]?=some b->r.2.2.2[i]?=some kd->Ty ks cls n b kd) ⟨none,[],[],rfl,g6.trans k7,ba,.nil,rfl,λi b kd hb=>(nomatch hb)⟩ ?_ ?_
 .rintro j _ H8 hj ⟨ag,vs,ts,rfl,g8,e8,ah,ar,as⟩;have bo:0<d:=af.2.resolve_left λz=>by rw [z]at hj;cases hj
  have eb:=List.getElem?_eq_getElem hj;have a3:=aa.cl r af.1 _ (List.getElem_mem hj);generalize r.2.2.2[j]=br at eb a3;obtain⟨kb,bb,bc⟩:=List.mem_map.mp a3;obtain⟨d',rfl⟩: ∃d',d=d'+1:=⟨d-1,by lia⟩;have bp:=ah.length;refine⟨G3.tyL e8,⟨.inl (54:),.t _ (.str br) (g8.seqT (ab r af.1).2) (Qo (by rw [List.getElem?_map,eb];rfl)) ⟨c,3*k+j+1,d',br,lw,lc,ks,cv,cls,keep,by lia,by lia,?_,by lia,?_,hW.same g8,an,⟨kb,bb,bc⟩,g8.seq av,ao.mono λ_ _=>g8.seqT,a6,λv H9 t g9 hv ht=>⟨ae,vs,_,rfl,rfl,g9 _ _ e8,by rw [show sizeLine=16777216 by decide];lia,?_⟩⟩⟩⟩
  .rw [show((d'+1:Nat):Int)-1=(d':Int)by lia]
  .have h4:(0:Int)<=4^d':=Int.le_of_lt (Int.pow_pos (18:));have h5:(3*k+j+1+1)*4^d'<=(4*(k+1))*4^d':=Int.mul_le_mul_of_nonneg_right (6:) h4;have h6:(4*(k+1))*(4:Int)^d'=(k+1)*4^(d'+1):=by rw [Int.pow_succ,Int.mul_comm 4 (k+1),Int.mul_assoc,Int.mul_comm (4^d') 4]
   lia
  .refine⟨_,_,ts++[t],rfl,λa u e=>?_,Qb,TmAll.append (ah.mono λ_ _ h=>SqT.put (g9.seqT h) (g9 _ _ e8)) (.cons (hv.mono λ_ _ h=>SqT.put h (g9 _ _ e8)) .nil),by simp [ar],λi b kd hb hk=>?_⟩
   .rw [Qg (Qd e a4)];exact g9 _ _ (g8 _ _ e)
   .by_cases hi:i<ts.length
    .rw [List.getElem?_append_left hi]at hb;exact as i b kd hb hk
    .rw [List.getElem?_append_right (6:)]at hb;have:i-ts.length=0:=by
      cases hq:i-ts.length with
      | zero=>rfl
      | succ q=>rw [hq]at hb;cases hb
     rw [this]at hb;cases hb;have:i=j:=by lia
     subst this;rw [eb]at hk;cases hk;exact ht
 rintro _ H8 ⟨ag,vs,ts,rfl,g8,e8,ah,ar,as⟩;refine .c (λai H'=>∃b:Bool,ai=[some (.int c),some (.int k),some (.int (d:Int)),some (.str U),some (.ref lw),some (.ref lc),some (.bl keep),some (.int x),some (.ref l8),some (.ref l'),some (.ref ac),some (.str r.2.1),some (.ref r.2.2.1),some (.ref ae),ag,some (.bl b),none]/\H'=H8) ?_ ?_
 .cases keep with
  | true=>exact⟨_,rfl,rfl⟩
  | false=>exact⟨_,rfl,rfl⟩
 rintro _ H8 ⟨b,rfl,rfl⟩;refine .c (λai H'=>∃a:Int,ai=[some (.int c),some (.int k),some (.int (d:Int)),some (.str U),some (.ref lw),some (.ref lc),some (.bl keep),some (.int x),some (.ref l8),some (.ref l'),some (.ref ac),some (.str r.2.1),some (.ref r.2.2.1),some (.ref ae),ag,some (.bl b),some (.int a)]/\Same H8 H') ?_ ?_
 .refine⟨c,rfl,λy=>⟨λp X k d n=>?_⟩⟩;have q0:=Int.emod_nonneg (x/64) (show(3:Int)≠0 by decide);have q1:=Int.emod_lt_of_pos (x/64) (show(0:Int)<3 by decide);rcases(show x/64%3=0\/x/64%3=1\/x/64%3=2 by lia)with e | e | e
  .exact .l _ (.int 0) (SqL.of d) (by rw [e];rfl) ⟨_,rfl,k⟩
  .exact .l _ (.int (x/2048%19-9)) (SqL.of d) (by rw [e];rfl) ⟨_,rfl,k⟩
  .exact .l _ (.int y) (SqL.of d) (by rw [e];rfl) ⟨_,rfl,k⟩
 rintro _ H9 ⟨a,rfl,g9⟩;refine .l vs (SqL.of (g9 _ _ e8)) λpt Ha ga da=>⟨λpr Hb gb db _=>q _ Hb (.node (.put r.2.1 b a) 0 ts) (g8.trans (g9.trans (ga.trans gb))) (.put db (gb.seqT da) (ah.mono λ_ _=>(g9.trans (ga.trans gb)).seqT) (by have:=ah.length;lia)) (.inr ⟨_,_,_,ts,r.2.2.2,rfl,NM ef aa.ok af.1,ar,as⟩)⟩
theorem J9(F:Fun K "_law_typed" "_law_typed" Ja f fd)(G:Gm mg)(RM:Fn P w K mg base 1 "_law_mixed" ["_law_cell","_law_k"] Zc)(RG:Fn P w K mg base 1 "_law_great" ["_law_cell"] YT)(hb:Binds K fd Ui [])(hm:mg "_law_typed"=some (82:)):∀n:Nat,FnOk P w K mg base CX0 (n+1) f fd Ui (ZQ K n)
 | 0=>⟨λvs H Q E h=>by obtain⟨c,k,d,J,L,U,ks,Y,cls,keep,_,_,rfl,_⟩:=h;rfl,λA outer s H Z us vs Q E _ _ _ _ h=>by obtain⟨c,k,d,J,L,U,ks,Y,cls,keep,hn,_⟩:=h;lia⟩
 | n+1=>Na F G RM RG ⟨f,fd,J9 F G RM RG hb hm n,hb,F.kp,hm⟩
end
end K65
namespace K65
open PySem L2 TM TT K9 K11
structure Psg(ks ko:List KdT)(os:List Ow)(t0:Tm)(ms:List MoT):Prop where
 l3:os.length<=3
 o0:∃k0 q0,ks[0]?=some k0/\ko[0]?=some q0/\os[0]?=some (k0.2.1,q0.2.1)/\∃cls,(∀c∈cls,ClOk [k0.2.1] os c)/\Ty ko cls 3 t0 q0.2.1
 ok:∀o∈os,(∃k∈ks,k.2.1=o.1)/\∃k∈ko,k.2.1=o.2
 ml:ms.length=os.length
 mo:∀(i:Nat) m o,ms[i]?=some m->os[i]?=some o->m.2.1=o.1/\m.2.2.2.2.length=(rowsK ks o.1).length/\∀(j:Nat) r t,(rowsK ks o.1)[j]?=some r->m.2.2.2.2[j]?=some t->∃cls,(∀c∈cls,ClOk r.2.2.2 os c)/\Ty ko cls 3 t o.2
def Yj(K:Fg):Sp:=λvs H Q _=>∃(ls lw lo:Addr)(ns:List Int)(u:Int)(ks ko:List KdT),vs=[.ref ls,.int u,.int 2,.ref lw,.ref lo]/\0<=u/\SqL K H ls (ns.map V.int)/\WoodAt K H lw ks/\WF ks/\WoodAt K H lo ko/\WF ko/\
 ∀(p lm:Addr)(sv:V)(os:List Ow)(t0:Tm)(ms:List MoT)(H':Hp),Same H H'->TuAt K H' p lw sv lm ks t0 ms->Psg ks ko os t0 ms->Q (.ref p) H'
abbrev Tw:List Str:=["_law_script","_law_used","_law_deep","_law_wood_here","_law_out","_law_number","_law_owners","_law_i","_law_some","_law_calls_here","_law_start","_law_modes","_law_kind","_law_other","_law_rules","_law_row"]
abbrev ML:List Str:=["_law_script","_law_used","_law_deep","_law_wood_here","_law_out"]
def MZ:List G3.S:=[.set 5 (.call 0 [.v 0,.v 1]),.set 6 (.lst [.tup [.ix (.ix (.v 3) (78:)) (78:),.ix (.ix (.v 4) (78:)) (78:)]]),.forR 7 (.bin .Mod (.v 5) (.k (.int 3))) [.set 8 (.call 1 [.v 5,.v 7]),.ex (.meth 0 (.v 6) [.tup [.ix (.ix (.v 3) (.bin .Mod (.v 8) (.call 2 [.v 3]))) (78:),.ix (.ix (.v 4) (.bin .Mod (.bin .FloorDiv (.v 8) (.k (.int 64))) (.call 2 [.v 4]))) (78:)]])],.set 9 (.call 3 [.tup [.ix (.ix (.v 3) (78:)) (78:)],.v 6]),.set 10 (.call 4 [.call 0 [.v 0,.bin .Add (.v 1) (56:)],.k (.int 0),.v 2,.ix (.ix (.v 4) (78:)) (78:),.v 4,.v 9,.k (.bl false)]),.set 1 (.bin .Add (.v 1) (.k (.int 2))),.set 11 (.lst []),.forU [12,13] (.v 6) [.set 14 (.lst []),.forL 15 (.nd 0 [.call 5 [.v 3],.v 12]) [.set 9 (.call 3 [.ix (.v 15) (56:),.v 6]),.ex (.meth 0 (.v 14) [.call 4 [.call 0 [.v 0,.v 1],.k (.int 0),.v 2,.v 13,.v 4,.v 9,.k (.bl true)]]),.set 1 (.bin .Add (.v 1) (56:))],.ex (.meth 0 (.v 11) [.tup [.v 12,.v 14]])],.ret (.tup [.v 3,.v 10,.v 11])]
def LJ(K:Fg):G3.En:=⟨K,[λ_ vs H Q=>Uj K vs H Q E0,λ_ vs H Q=>Zc vs H Q E0,λ_ vs H Q=>G3.rLen K vs H Q,λ_ vs H Q=>UM K vs H Q E0,λ_ vs H Q=>ZQ K 3 vs H Q E0,λ_ vs H Q=>Xr K vs H Q],[G3.mApp K],[Nv K],[]⟩
theorem ZW{α:Type}{l:List α}{x y:α}{i:Nat}(h:(l++[x])[i]?=some y):l[i]?=some y\/i=l.length/\y=x:=by
 by_cases hi:i<l.length
 .rw [List.getElem?_append_left hi]at h;exact .inl h
 .rw [List.getElem?_append_right (6:)]at h;cases G:i-l.length with
  | zero=>rw [G]at h;cases h;exact .inr ⟨by lia,rfl⟩
  | succ q=>rw [G]at h;cases h
section
variable{P:Program}{w:World}{K:Fg}{mg:Str->Option Value}{base:Heap}{f:Addr}{fd:FuncData}
theorem GF:FnScope Tw ML (defScope Jq):=(0:)
theorem ZV{H:Hp}{lw:Addr}{ks:List KdT}(h:WoodAt K H lw ks){i:Nat}{k:KdT}(e:ks[i]?=some k):atI (ks.map λk:KdT=>V.ref k.1) (i:Int)=some (.ref k.1)/\SqT K H k.1 [.str k.2.1,.ref k.2.2.1]:=
 ⟨Qo (by rw [List.getElem?_map,e];rfl),(h.2 k (List.mem_of_getElem? e)).1⟩
theorem Vr(F:Fun K "_law_passing" "_law_passing" Jq f fd)(G:Gm mg)(RC:Fn P w K mg base 1 "_law_cell_at" ["_law_script","_law_k"] (Uj K))(RM:Fn P w K mg base 1 "_law_mixed" ["_law_cell","_law_k"] Zc)(RL:Fn P w K mg base 1 "_law_calls" ["_law_branches","_law_owners"] (UM K))(RT:Fn P w K mg base 4 "_law_typed" Ui (ZQ K 3)):FnOk P w K mg base CX0 5 f fd ML (Yj K):=by
 refine G3.Fun.okC F GF (LJ K) MZ (nk:=[G3.shIx]) (λX c=>⟨.cons (c.fn RC) (.cons (c.fn RM) (.cons (96:) (.cons (c.fn RL) (.cons (c.fn RT) (.cons (c.tyC Jp G.dct PyProof.Rows.boot_dict) .nil))))),.cons (c.meth G3.m_append) .nil,.cons (c.nodeR JU) .nil⟩) (11:) (λH vs Q E h=>?_) G.rng
 .obtain⟨ls,lw,lo,ns,u,ks,ko,rfl,_⟩:=h
  rfl
 obtain⟨ls,lw,lo,ns,u,ks,ko,rfl,hu,ay,hW,hF,L,ah,q⟩:=h;obtain⟨k0,e0⟩: ∃k0,ks[0]?=some k0:=⟨_,List.getElem?_eq_getElem hF.ne⟩;obtain⟨q0,eo⟩: ∃k0,ko[0]?=some k0:=⟨_,List.getElem?_eq_getElem ah.ne⟩;have bw:=List.mem_of_getElem? e0;have bg:=List.mem_of_getElem? eo;refine⟨ls,ns,u,rfl,hu,ay,λY=>.l _ _ hW.1 (ZV hW e0).1<| .t _ _ (ZV hW e0).2 rfl<| .l _ _ L.1 (ZV L eo).1<| .t _ _ (ZV L eo).2 rfl ⟨λp1 X1 k1 d1 _=>⟨λl6 H0 bi e6 n6=>⟨⟨?_,?_⟩,?_⟩⟩⟩⟩
 .have:=Int.emod_nonneg Y (show(3:Int)≠0 by decide);lia
 .have:=Int.emod_lt_of_pos Y (show(0:Int)<3 by decide);lia
 have g0:=k1.trans bi;have bx:H l6=none:=Same.none k1 n6;refine .f (λj σ H'=>∃c7 c8 ps os,σ=[some (.ref ls),some (.int u),some (.int 2),some (.ref lw),some (.ref lo),some (.int Y),some (.ref l6),c7,c8,none,none,none,none,none,none,none]/\Same H H'/\H' l6=some (.lst (ps.map V.ref))/\ps.length=os.length/\(∀(i:Nat) p o,ps[i]?=some p->os[i]?=some o->SqT K H' p [.str o.1,.str o.2])/\os.length=j+1/\os[0]?=some (k0.2.1,q0.2.1)/\∀o∈os,(∃k∈ks,k.2.1=o.1)/\∃k∈ko,k.2.1=o.2) ⟨none,none,[p1],[(k0.2.1,q0.2.1)],rfl,g0,e6,rfl,?_,rfl,rfl,?_⟩ ?_ ?_
 .intro i p o hp ho;cases i with
  | zero=>cases hp;cases ho;exact bi.seqT d1
  | succ i=>cases hp
 .intro o ho;rw [List.mem_singleton.mp ho];exact⟨⟨k0,bw,rfl⟩,q0,bg,rfl⟩
 .rintro j _ H1 hj ⟨c7,c8,ps,os,rfl,g1,e1,ad,hp,bj,az,am⟩;have ce:j<3:=by
   have:=Int.emod_lt_of_pos Y (show(0:Int)<3 by decide);lia
  have ix:∀(z:Int)(l:List KdT),0<l.length->∃(i:Nat)(k:KdT),z%((l.map λk:KdT=>V.ref k.1).length:Int)=(i:Int)/\l[i]?=some k:=λz l hl=>by
   rw [List.length_map];have l0:(0:Int)<(l.length:Int):=by lia
   have m0:=Int.emod_nonneg z (Int.ne_of_gt l0);have m1:=Int.emod_lt_of_pos z l0;exact⟨(z%(l.length:Int)).toNat,l[(z%(l.length:Int)).toNat]'(6:),(Int.toNat_of_nonneg m0).symm,List.getElem?_eq_getElem (6:)⟩
  refine⟨Y,j,rfl,by lia,by lia,λx x0 x1=>?_⟩;obtain⟨i1,ka,bz,a0⟩:=ix x ks hF.ne;obtain⟨i2,kb,b0,a5⟩:=ix (x/64) ko ah.ne;have an:=hW.same g1;have ag:=L.same g1;have la:(0:Int)<((ks.map λk:KdT=>V.ref k.1).length:Nat):=by rw [List.length_map];have:=hF.ne;lia
  have lb:(0:Int)<((ko.map λk:KdT=>V.ref k.1).length:Nat):=by rw [List.length_map];have:=ah.ne;lia
  refine⟨G3.tyL e1,.l _ an.1<|P0 la<| .l _ (.ref ka.1) an.1 (by rw [bz];exact(ZV an a0).1)<| .t _ _ (ZV an a0).2 rfl<| .l _ ag.1<|P0 lb<| .l _ (.ref kb.1) ag.1 (by rw [b0];exact(ZV ag a5).1)<| .t _ _ (ZV ag a5).2 rfl ⟨λp2 X2 J d2 _=>⟨l6,_,_,rfl,rfl,J _ _ e1,by rw [List.length_map,show sizeLine=16777216 by decide];lia,?_⟩⟩⟩;refine⟨_,_,ps++[p2],os++[(ka.2.1,kb.2.1)],rfl,λa z e=>?_,by rw [Qb,List.map_append];rfl,by simp [ad],λi p o b1 bn=>?_,by simp [bj],by rw [List.getElem?_append_left (6:)];exact az,λo ho=>?_⟩
  .rw [Qg (Qd e bx)];exact J _ _ (g1 _ _ e)
  .rcases ZW b1 with a | ⟨a,b⟩
   .rcases ZW bn with a' | ⟨a',b'⟩
    .exact SqT.put (J.seqT (hp i p o a a')) (J _ _ e1)
    .have:=(List.getElem?_eq_some_iff.mp a).1;lia
   .rcases ZW bn with a' | ⟨a',b'⟩
    .have:=(List.getElem?_eq_some_iff.mp a').1;lia
    .rw [b,b'];exact SqT.put d2 (J _ _ e1)
  .rcases List.mem_append.mp ho with z | z
   .exact am o z
   .rw [List.mem_singleton.mp z];exact⟨⟨ka,List.mem_of_getElem? a0,rfl⟩,kb,List.mem_of_getElem? a5,rfl⟩
 rintro _ H1 ⟨c7,c8,ps,os,rfl,g1,e1,ad,hp,bj,az,am⟩;have bo:os.length<=3:=by
  have:=Int.emod_lt_of_pos Y (show(0:Int)<3 by decide);lia
 have cf:Pj K H1 l6 os:=⟨ps,SqL.of e1,ad,hp⟩;refine .l _ _ (hW.same g1).1 (ZV hW e0).1<| .t _ _ (ZV (hW.same g1) e0).2 rfl ⟨λp2 X2 J d2 _=>⟨p2,l6,[k0.2.1],os,rfl,d2,⟨ps,SqL.of (J _ _ e1),ad,λi p o a b=>J.seqT (hp i p o a b)⟩,(by show 1<=10;decide),by lia,λl9 v9 cls H2 g2 e9 a6 a7 bp=>?_⟩⟩;have ai:=g1.trans (J.trans g2);refine⟨ls,ns,u+1,rfl,by lia,ai.seq ay,λcc=>.l _ _ (L.same ai).1 (ZV L eo).1<| .t _ _ (ZV (L.same ai) eo).2 rfl ⟨cc,0,2,q0.2.1,lo,l9,ko,v9,cls,false,rfl,by decide,rfl,by decide,by decide,L.same ai,ah,⟨q0,bg,rfl⟩,SqL.of e9,a6,?_,λsv H3 t0 g3 b3 aj=>⟨λab H4 g4 ae b4=>?_⟩⟩⟩
 .have:cls.length<=1*os.length:=bp;lia
 have a8:Same H H3:=ai.trans g3;have e6:H3 l6=some (.lst (ps.map V.ref)):=g3 _ _ ((J.trans g2) _ _ e1);have bq:∀(i:Nat) p o,ps[i]?=some p->os[i]?=some o->SqT K H3 p [.str o.1,.str o.2]:=λi p o a b=>(J.trans (g2.trans g3)).seqT (hp i p o a b);refine .f (ps.map V.ref) (λj σ H'=>∃u c9 ao ap aq U ms,σ=[some (.ref ls),some (.int u),some (.int 2),some (.ref lw),some (.ref lo),some (.int Y),some (.ref l6),c7,c8,c9,some sv,some (.ref ab),ao,ap,aq,U]/\0<=u/\Same H3 H'/\H' ab=some (.lst (ms.map λm:MoT=>V.ref m.1))/\(∀m∈ms,SqT K H' m.1 [.str m.2.1,.ref m.2.2.1]/\H' m.2.2.1=some (.lst m.2.2.2.1)/\m.2.2.1≠ab/\TmAll K H' m.2.2.2.1 m.2.2.2.2)/\ms.length=j/\∀(i:Nat) m o,ms[i]?=some m->os[i]?=some o->m.2.1=o.1/\m.2.2.2.2.length=(rowsK ks o.1).length/\∀(j:Nat) r t,(rowsK ks o.1)[j]?=some r->m.2.2.2.2[j]?=some t->∃cls,(∀c∈cls,ClOk r.2.2.2 os c)/\Ty ko cls 3 t o.2) ⟨u+2,_,_,_,_,_,[],rfl,by lia,g4,ae,λm hm=>(nomatch hm),rfl,λi m o hm=>(nomatch hm)⟩ ?_ ?_ ?_
 .rintro j _ H' _ ⟨u',c9,ao,ap,aq,U,ms,rfl,a9,Z,_⟩;exact SqL.of (Z _ _ e6)
 .rintro j x _ H5 hx ⟨u',c9,ao,ap,aq,U,ms,rfl,a9,Z,ae,ak,ar,ba⟩;have b5:j<ps.length:=by have:=(72:).1;rwa [List.length_map]at this
  obtain⟨p,ep⟩: ∃p,ps[j]?=some p:=⟨_,List.getElem?_eq_getElem b5⟩;obtain⟨o,ho⟩: ∃o,os[j]?=some o:=(41:);rw [List.getElem?_map,ep]at hx;cases hx;have br:=am o (List.mem_of_getElem? ho);obtain⟨kk,ef,bt,bb⟩:=Yg br.1;have bu:=hF.kf kk bb;have bc:=a8.trans Z;refine⟨p,_,rfl,Z.seqT (bq j p o ep ho),⟨λaf H6 g6 ac as=>.w ks (hW.same (bc.trans g6)) hF.ok λdd H7 g7 b6=>.g ks kk b6 ef ?_⟩⟩;have ca:H3 af=none:=Same.none Z as;have au:af≠ab:=λz=>by rw [z,ae]at as;cases as
  have b7:=g6.trans g7;refine .f (kk.2.2.2.map λt:PNx=>V.ref t.1) (λi σ H'=>∃u c9 U vs ts,σ=[some (.ref ls),some (.int u),some (.int 2),some (.ref lw),some (.ref lo),some (.int Y),some (.ref l6),c7,c8,c9,some sv,some (.ref ab),some (.str o.1),some (.str o.2),some (.ref af),U]/\0<=u/\Same H5 H'/\H' af=some (.lst vs)/\TmAll K H' vs ts/\ts.length=i/\∀(j:Nat) r t,kk.2.2.2[j]?=some r->ts[j]?=some t->∃cls,(∀c∈cls,ClOk r.2.2.2 os c)/\Ty ko cls 3 t o.2) ⟨u',_,_,[],[],rfl,a9,b7,g7 _ _ ac,.nil,rfl,λj r t _ h=>(nomatch h)⟩ ?_ ?_ ?_
  .rintro i _ H' _ ⟨u2,c9,U,vs,ts,rfl,av,g8,_⟩;exact(bc.trans g8).seq (hW.2 kk bb).2.1
  .rintro i x _ H8 hx ⟨u2,c9,U,vs,ts,rfl,av,g8,ac,aw,ax,aj⟩;have bv:i<kk.2.2.2.length:=by have:=(72:).1;rwa [List.length_map]at this
   have er:=List.getElem?_eq_getElem bv;have bd:=List.getElem_mem bv;generalize kk.2.2.2[i]=r at er bd;rw [List.getElem?_map,er]at hx;cases hx;have G8:=bc.trans g8;have hr:=((hW.2 kk bb).2.2 r bd).same G8;have b8:=bu.w3 r bd;have cg:=aw.length;have cb:=bu.ok.len;refine .t _ _ hr.1 rfl ⟨r.2.2.1,l6,r.2.2.2,os,rfl,hr.2,⟨ps,SqL.of ((Z.trans g8) _ _ e6),ad,λi p o a b=>(Z.trans g8).seqT (bq i p o a b)⟩,by lia,by lia,λl9 v9 cls H9 g9 e9 a6 a7 bp=>?_⟩;have G9:=G8.trans g9;refine⟨G3.tyL (g9 _ _ ac),ls,ns,u2,rfl,av,G9.seq ay,λcc=>⟨cc,0,2,o.2,lo,l9,ko,v9,cls,true,rfl,by decide,rfl,by decide,by decide,L.same G9,ah,br.2,SqL.of e9,a6,?_,λv Ha t ga hv ht=>⟨af,vs,_,rfl,rfl,(g9.trans ga) _ _ ac,by rw [show sizeLine=16777216 by decide];lia,?_⟩⟩⟩
   .have:r.2.2.2.length*os.length<=3*3:=Nat.mul_le_mul b8 bo;lia
   .have be:=(g9.trans ga) _ _ ac;refine⟨_,_,_,_,ts++[t],rfl,by lia,λa z e=>?_,Qb,TmAll.append (aw.mono λ_ _ h=>SqT.put ((g9.trans ga).seqT h) be) (.cons (hv.mono λ_ _ h=>SqT.put h be) .nil),by simp [ax],λj r' t' hj b9=>?_⟩
    .rw [Qg (Qd e as)];exact(g9.trans ga) _ _ (g8 _ _ e)
    .rcases ZW b9 with a | ⟨a,b⟩
     .exact aj j r' t' hj a
     .have:j=i:=by lia
      subst this;rw [er]at hj;cases hj;rw [b];exact⟨cls,a7,ht⟩
  .rintro _ H8 ⟨u2,c9,U,vs,ts,rfl,av,g8,ac,aw,ax,aj⟩;rw [List.length_map]at ax;have al:=g8 _ _ ae;refine⟨G3.tyL al,⟨λp2 X2 J d2 _=>⟨ab,_,_,rfl,rfl,J _ _ al,by rw [List.length_map,show sizeLine=16777216 by decide];lia,?_⟩⟩⟩;have aa:=J _ _ al;refine⟨_,_,_,_,_,_,ms++[(p2,o.1,af,vs,ts)],rfl,av,λa z e=>?_,by rw [Qb,List.map_append];rfl,λm hm=>?_,by simp [ar],λi m o' hm bf=>?_⟩
   .rw [Qg (Qd e b4)];exact J _ _ (g8 _ _ (Z _ _ e))
   .rcases List.mem_append.mp hm with z | z
    .obtain⟨a1,a2,a3,a4⟩:=ak m z;have gk:=g8.trans J;exact⟨SqT.put (gk.seqT a1) aa,by rw [Qg a3];exact gk _ _ a2,a3,a4.mono λ_ _ h=>SqT.put (gk.seqT h) aa⟩
    .rw [List.mem_singleton.mp z];exact⟨SqT.put d2 aa,by rw [Qg au];exact J _ _ ac,au,aw.mono λ_ _ h=>SqT.put (J.seqT h) aa⟩
   .rcases ZW hm with a | ⟨a,b⟩
    .exact ba i m o' a bf
    .have:i=j:=by lia
     subst this;rw [ho]at bf;cases bf;rw [b];refine⟨rfl,by rw [bt];exact ax,λj r t hj ht=>?_⟩;rw [bt]at hj;exact aj j r t hj ht
 .rintro _ H5 ⟨u',c9,ao,ap,aq,U,ms,rfl,a9,Z,ae,ak,ar,ba⟩;rw [List.length_map,ad]at ar;refine⟨λp2 X2 J d2 _=>q p2 ab sv os t0 ms X2 (a8.trans (Z.trans J)) ⟨d2,hW.same (a8.trans (Z.trans J)),tmS (Z.trans J) b3,SqL.of (J _ _ ae),λm hm=>⟨J.seqT (ak m hm).1,SqL.of (J _ _ (ak m hm).2.1),(ak m hm).2.2.2.mono λ_ _=>J.seqT⟩⟩ ⟨bo,⟨k0,q0,e0,eo,az,cls,a7,aj⟩,am,ar,ba⟩⟩
end
end K65
namespace L2
open PySem PySem.Spec PyProof.Rows
abbrev PrI:=Int×Int
def ZD(p:PrI):PyData:=.tuple [.int p.1,.int p.2]
theorem Xi(p:PrI):(ZD p).canLay0=true:=by simp [ZD,PyData.canLay0,PyData.canLayAll0]
theorem L5(p:PrI):(ZD p).depth<=2:=by simp [ZD,PyData.depth,PyData.depthAll]
theorem YF:∀ps:List PrI,PyData.canLayAll0 (ps.map ZD)=true
 | []=>by simp [PyData.canLayAll0]
 | p::r=>by simp [PyData.canLayAll0,Xi,YF r]
theorem Wb(p q:PrI):PyData.eqv (ZD p) (ZD q)=decide (p=q):=by
 obtain⟨a,b⟩:=p;obtain⟨c,d⟩:=q
 by_cases h1:a=c<;>by_cases h2:b=d<;>simp [ZD,PyData.eqv,PyData.eqvAll,h1,h2]
theorem LN(ps:List PrI)(p:PrI):((ps.map ZD).any λy=>PyData.eqv y (ZD p))=decide (p∈ps):=by
 induction ps with
 | nil=>simp
 | cons q r G=>
  rw [List.map_cons,List.any_cons,G,Wb]
  by_cases h:q=p
  .simp [h]
  .have h':¬p=q:=λz=>h z.symm;simp [h,h']
def WH(K:Fg)(H:Hp)(ts:List (Addr×PrI)):Prop:=∀t∈ts,SqT K H t.1 [.int t.2.1,.int t.2.2]
theorem XS{K:Fg}{H:Hp}{a:Addr}{p:PrI}(h:SqT K H a [.int p.1,.int p.2]):RdV K H (.ref a) (ZD p):=.tup h (.cons (.int _) (.cons (.int _) .nil))
theorem Jx{K:Fg}{H:Hp}:∀{ts:List (Addr×PrI)},WH K H ts->RdAll K H (67:) ((ts.map (·.2)).map ZD)
 | [],_=>.nil
 | t::r,h=>.cons (XS (h t List.mem_cons_self)) (Jx λu G=>h u (34:))
section
variable{X:Cx}
theorem GL(hu:X.A.units+8<cLine):OpR X (compareOp .NotIn) (λx y H Q=>∃(a l:Addr)(p:PrI)(ts:List (Addr×PrI)),x=.ref a/\y=.ref l/\SqT X.K H a [.int p.1,.int p.2]/\SqL X.K H l (67:)/\WH X.K H ts/\Q (.bl (!decide (p∈ts.map (·.2)))) H):=by
 intro pins s σ H x y v u Q I G J h;obtain⟨a,l,p,ts,rfl,rfl,L,U,Y,q⟩:=h;obtain⟨as,Z⟩:=(XS L).reads I G;obtain⟨bs,q2⟩:=(RdV.lst U (Jx Y)).reads I J;refine SeqAt.notIn_list_reads q2 Z (YF _) (Xi _) ?_ ⟨.bl _,H,I,rfl,?_⟩
 .have h1:=L5 p;have h2:min (PyData.depthAll (List.map ZD (ts.map (·.2)))) (ZD p).depth<=(ZD p).depth:=Nat.min_le_right _ _;lia
 .rw [LN];exact q
theorem GZ(hu:X.A.units+20<cLine):MtM X "list.index" (λx vs H Q=>∃(a l:Addr)(p:PrI)(ts:List (Addr×PrI))(j:Nat),x=.ref l/\vs=[.ref a]/\SqT X.K H a [.int p.1,.int p.2]/\H l=some (.lst (67:))/\WH X.K H ts/\ts.length<=1000/\(ts.map (·.2))[j]?=some p/\(∀i,i<j->(ts.map (·.2))[i]?≠some p)/\Q (.int (j:Int)) H):=by
 intro pins s σ H x vs v us Q I rx rv h;obtain⟨a,l,p,ts,j,rfl,rfl,ha,hH,ht,hz,J,U,q⟩:=h;cases rx;obtain⟨u,rfl,ru⟩:=rv.one;obtain⟨z,its,n,r,hl,e⟩:=I.lstM hH;obtain⟨as,q1⟩:=(XS ha).reads I ru;obtain⟨bs,Y⟩:=(Jx ht).reads I r;rw [List.length_map]at hl;have G:j<its.length:=by have:=(List.getElem?_eq_some_iff.mp J).1;rw [List.length_map]at this;lia
 have L:=SeqAt.readsAll_map _ _ _ (YF (ts.map (·.2))) Y;have get:∀(i:Nat)(h:i<its.length),SeqAt.readOf s.heap its[i]=ZD ((ts.map (·.2))[i]'(36:)):=λi h=>by
  have h1:=congrArg (λl:List PyData=>l[i]?) L;simp only [List.getElem?_map,List.getElem?_eq_getElem h]at h1;rw [List.getElem?_eq_getElem (6:)]at h1;have h1:=Option.some.inj h1;rw [h1];simp
 refine call_meets F.slot_list_index ⟨_,e,rfl⟩ F.entry_list_index (F.args_list_index_2 _ _) (SeqAt.list_indexAt l its.toArray n none #[] u (λy=>PyData.eqv (SeqAt.readOf s.heap y) (ZD p)) j (by simpa using G) (6:) ?_ (λi hi Z=>?_)) ⟨e,λy hy=>?_,?_⟩
 .have:=get j G;simp only [List.getElem_toArray,this,Wb];rw [List.getElem?_eq_getElem (36:)]at J;exact decide_eq_true (Option.some.inj J)
 .have aa:i<its.length:=by simpa using hi
  have:=get i aa;simp only [List.getElem_toArray,this,Wb];have h2:=U i Z;rw [List.getElem?_eq_getElem (36:)]at h2;exact decide_eq_false λz=>h2 (by rw [z])
 .refine SeqAt.items_eqAt (vs:=its.toArray) (xs:=(ts.map (·.2)).map ZD) (by show ReadsAll s.heap its _ _;exact Y) q1 (YF _) (Xi _) ?_ y hy;have h1:=L5 p;have h2:min (PyData.depthAll (List.map ZD (ts.map (·.2)))) (ZD p).depth<=(ZD p).depth:=Nat.min_le_right _ _;lia
 .exact⟨.int j,H,I.tok _,(51:),q⟩
end
end L2
namespace K65
open PySem L2 TM TT K9 K11
theorem Uh{p:Pr}:∀{l:List Pr},p∈l->l[l.idxOf p]?=some p/\∀i,i<l.idxOf p->l[i]?≠some p
 | [],h=>(nomatch h)
 | q::r,h=>by
  by_cases e:q=p
  .rw [e,List.idxOf_cons_self];exact⟨rfl,λi hi=>absurd hi (Nat.not_lt_zero _)⟩
  .have G:(q==p)=false:=by simpa using e
   rw [List.idxOf_cons,G,cond_false];obtain⟨a,b⟩:=Uh (l:=r) ((List.mem_cons.mp h).resolve_left λz=>e z.symm);refine⟨by simpa using a,λi hi=>?_⟩;cases i with
   | zero=>intro z;exact e (Option.some.inj z)
   | succ i=>simpa using b i (6:)
theorem Rt{p:Pr}{ps r:List Pr}(h:p∈ps):ixP (ps++r) p=ixP ps p:=by
 unfold ixP;rw [List.idxOf_append,if_pos h]
theorem KeepT.ls{K:Fg}{H H':Hp}{l:Addr}{ys:List V}(h:H l=some (.lst ys))(g:SameX l H H'):KeepT K H H':=⟨λa xs q=>by
 rcases q with(q | ⟨o,q⟩) | q
 .exact .inl (.inl (g _ _ (ne_of q h (10:)) q))
 .exact .inl (.inr ⟨o,g _ _ (ne_of q h (10:)) q⟩)
 .exact .inr q,λa xs q=>g _ _ (ne_of q h (10:)) q⟩
theorem ZO{K:Fg}{H H':Hp}{ts:List (Addr×PrI)}(k:∀a xs,SqT K H a xs->SqT K H' a xs)(h:WH K H ts):WH K H' ts:=λt G=>k _ _ (h t G)
theorem SameX.trans{x:Addr}{H H1 H2:Hp}(a:SameX x H H1)(b:SameX x H1 H2):SameX x H H2:=λc u n e=>b c u n (a c u n e)
structure PrsAt(K:Fg)(H:Hp)(lp:Addr)(ps:List Pr)(ts:List (Addr×PrI)):Prop where
 l:H lp=some (.lst (67:))
 p:WH K H ts
 e:ts.map (·.2)=ps
def QZ(K:Fg)(n:Nat):Sp:=λvs H Q _=>∃(v:V)(lp:Addr)(t:TP)(ps:List Pr)(ts:List (Addr×PrI)),vs=[v,.ref lp]/\TpV K H v t/\lv t<=n/\PrsAt K H lp ps ts/\(addPs ps ((clP t).map (·.1))).length<=1000/\
 ∀(v':V)(ts':List (Addr×PrI))(H':Hp),SameX lp H H'->PrsAt K H' lp (addPs ps ((clP t).map (·.1))) ts'->(∀r,TmV K H' v' (mpP (ixP (addPs ps ((clP t).map (·.1))++r)) t))->Q v' H'
def G6:List G3.S:=[.ite (.cmp .Eq (.ix (.v 0) (78:)) (.k (.str "call"))) [.cut (.ite (.nd 0 [.ix (.v 0) (56:),.v 1]) [.ex (.meth 0 (.v 1) [.ix (.v 0) (56:)])] []),.ret (.tup [.k (.str "call"),.meth 1 (.v 1) [.ix (.v 0) (56:)],.ix (.v 0) (.k (.int 2))])] [],.setC 2 (.comp 2 (.ix (.v 0) (.k (.int 4))) [1] (.call 0 [.v 0,.v 1])),.ret (.bin .Add (.nd 1 [.v 0,.k (.int 4)]) (.tup [.call 1 [.v 2]]))]
inductive NotInP(K:Fg)(a l:Addr)(H:Hp)(Q:VK):Prop where
 | n (p:PrI) (ts:List (Addr×PrI)) (ha:SqT K H a [.int p.1,.int p.2]) (hl:SqL K H l (67:)) (ht:WH K H ts) (q:Q (.bl (!decide (p∈ts.map (·.2)))) H):NotInP K a l H Q
def Xk(K:Fg):R2:=λx y H Q=>match x,y with
 | .ref a,.ref l=>NotInP K a l H Q
 | _,_=>False
inductive IdxP(K:Fg)(a l:Addr)(H:Hp)(Q:VK):Prop where
 | i (p:PrI) (ts:List (Addr×PrI)) (ha:SqT K H a [.int p.1,.int p.2]) (hl:H l=some (.lst (67:))) (ht:WH K H ts) (hz:ts.length<=1000) (hp:p∈ts.map (·.2)) (q:Q (.int ((ts.map (·.2)).idxOf p:Nat)) H):IdxP K a l H Q
def S5(K:Fg):G3.Mr:=⟨tyV K "list",λx vs H Q=>match x,vs with
 | .ref l,[.ref a]=>IdxP K a l H Q
 | _,_=>False⟩
theorem WX{k:Nat}(X:Cx)(hr:Room k X.A):G3.NodeOk X (G3.shCmp .NotIn) (G3.on2 (Xk X.K)):=.cmp λpins s σ H x y v u Q I G J h=>by
 unfold Xk at h;split at h
 .cases h with
  | n p L U Y Z q=>exact GL (by have:=hr.un;lia) pins s σ H _ _ v u Q I G J ⟨_,_,p,L,rfl,rfl,U,Y,Z,q⟩
 .exact h.elim
theorem Nl{k:Nat}(X:Cx)(hr:Room k X.A):G3.MethOk X "index" (S5 X.K):=.bm PySem.F.plainAttrs_list PySem.F.slot_list_index PySem.F.type_list_index λpins s σ H x vs v G Q I J L h=>by
 split at h
 .cases h with
  | i p U Y Z ht hz hp q=>exact GZ (by have:=hr.un;lia) pins s σ H _ _ v G Q I J L ⟨_,_,p,U,_,rfl,rfl,Y,Z,ht,hz,(Uh hp).1,(Uh hp).2,q⟩
 .exact h.elim
theorem So{X:Cx}{P:Program}{w:World}{K:Fg}{mg:Str->Option Value}{base:Heap}{k:Nat}(c:G3.Cxt X P w K mg base k){x:Str}{r:Fg->G3.Mr}(h:∀X:Cx,Room k X.A->G3.MethOk X x (r X.K)):G3.MethOk X x (r K):=by
 obtain⟨rfl,rfl,rfl,rfl,rfl,G,J⟩:=c;exact h X G
def G2(K:Fg)(n:Nat):G3.En:=⟨K,[λ_ vs H Q=>QZ K n vs H Q E0,λ_ vs H Q=>G3.rTupOf K vs H Q],[G3.mApp K,S5 K],[G3.on2 (Xk K),G3.on2 λx y H Q=>G3.asI y λi=>Nu K x none (some i) H Q],[]⟩
section
variable{P:Program}{w:World}{K:Fg}{mg:Str->Option Value}{base:Heap}{f:Addr}{fd:FuncData}
theorem Vy:FnScope ["_law_term","_law_pairs","_law_parts"] ["_law_term","_law_pairs"] (defScope ZE):=(0:)
theorem WK{n:Nat}(F:Fun K "_law_numbered" "_law_numbered" ZE f fd)(G:Gm mg)(R:Fn P w K mg base (n+1) "_law_numbered" ["_law_term","_law_pairs"] (QZ K n)):FnOk P w K mg base CX0 (n+2) f fd ["_law_term","_law_pairs"] (QZ K (n+1)):=by
 refine G3.Fun.okC F Vy (G2 K n) G6 (nk:=[G3.shCmp .NotIn,G3.shSlTo]) (λX c=>⟨.cons (c.fn R (7:)) (.cons (c.ty (λ_=>G3.call_tupOf) G.tup PyProof.Rows.boot_tuple) .nil),.cons (c.meth G3.m_append) (.cons (So c Nl) .nil),.cons (c.nodeR (r:=λK=>G3.on2 (Xk K)) WX) (.cons (c.node (r:=λK=>G3.on2 λx y H Q=>G3.asI y λi=>Nu K x none (some i) H Q) λX=>.slTo Nj) .nil)⟩) (11:) (λH vs Q E h=>?_) G.rng
 .obtain⟨v,Y,t,ps,ts,rfl,_⟩:=h
  rfl
 obtain⟨v,Y,t,ps,ts,rfl,hv,al,L,hz,q⟩:=h;rcases X0 hv with⟨a,p,i,j,b,rfl,rfl,h1,h2⟩ | ⟨a,b,vs,nm,k,ad,rfl,et,h1,h2,h3,h4⟩
 .have ac:SqT K H p [.int i,.int j]:=SqT.of h2;have aa:addPs ps ((clP (.node (.call i j b) 0 [])).map (·.1))=Ze ps (i,j):=by rw [clP];rfl
  rw [aa]at hz;refine .t _ _ h1 rfl ?_;refine .c (λav H'=>av=[some (.ref a),some (.ref Y),none]/\SameX Y H H'/\∃U,PrsAt K H' Y (Ze ps (i,j)) U) ?_ ?_
  .refine .t _ _ h1 rfl<| .n (i,j) ts ac (SqL.of L.l) L.p ?_
   by_cases hm:(i,j)∈ts.map (·.2)
   .rw [decide_eq_true hm];refine⟨rfl,λ_ _ _ e=>e,ts,L.l,L.p,?_⟩;unfold Ze;rw [if_pos (L.e ▸ hm)];exact L.e
   .rw [decide_eq_false hm];have am:(i,j)∉ps:=L.e ▸ hm;have ep:Ze ps (i,j)=ps++[(i,j)]:=by unfold Ze;rw [if_neg am]
    have hl:=congrArg List.length L.e;rw [List.length_map]at hl;refine⟨G3.tyL L.l,.t _ _ h1 rfl ⟨Y,_,_,rfl,rfl,L.l,by rw [List.length_map,show sizeLine=16777216 by decide];rw [ep,List.length_append]at hz;lia,rfl,λb u nb e=>by rw [Qg nb];exact e,ts++[(p,(i,j))],?_,?_,?_⟩⟩
    .rw [Qb,List.map_append];rfl
    .intro t ht;rcases List.mem_append.mp ht with z | z
     .exact SqT.put (L.p t z) L.l
     .rw [List.mem_singleton.mp z];exact SqT.put ac L.l
    .rw [List.map_append,L.e,ep];rfl
  .rintro _ H1 ⟨rfl,g1,U,J⟩;have k1:=KeepT.ls (K:=K) L.l g1;have hm:(i,j)∈U.map (·.2):=by rw [J.e];exact Jn.mpr (.inr rfl)
   have hl:=congrArg List.length J.e;rw [List.length_map]at hl;refine⟨G3.tyL J.l,.t _ _ (k1.1 _ _ h1) rfl<| .i (i,j) U (k1.1 _ _ ac) J.l J.p (6:) hm<| .t _ _ (k1.1 _ _ h1) rfl ⟨λp2 X2 k2 d2 _=>q _ U X2 (λb u nb e=>k2 _ _ (g1 b u nb e)) (by rw [aa];exact⟨k2 _ _ J.l,ZO (λ_ _=>k2.seqT) J.p,J.e⟩) λr=>?_⟩⟩;rw [aa,mpP,Rt (Jn.mpr (.inr rfl))];rw [J.e]at d2;exact .call d2
 have aa:(clP t).map (·.1)=clL t.bs:=by rw [et,clP];rfl
 have ak:=h3.length;have an:∀c∈t.bs,lv c<=n:=λc hc=>by
  have:=WJ hc;rw [Q8]at al;lia
 rw [aa]at hz q;have aw:∀{x:Addr}{ys:List V},H x=none->x≠Y:=λhx z=>by rw [z,L.l]at hx;cases hx
 refine .t _ _ h1 rfl<| .t _ _ h1 rfl<| .t vs h2<| .m (λacc i ys H'=>∃U,SameX Y H H'/\H' acc=some (.lst ys)/\PrsAt K H' Y (addPs ps (clL (t.bs.take i))) U/\ys.length=i/\∀r,TmAll K H' ys (Jb (ixP (addPs ps (clL (t.bs.take i))++r)) (t.bs.take i))) (6:) (λacc H1 ha g e=>⟨ts,λb u _ e=>g b u e,e,⟨g _ _ L.l,ZO (λ_ _=>g.seqT) L.p,L.e⟩,rfl,λr=>.nil⟩) (λacc i ys H1 ⟨U,g,_⟩=>(KeepT.ls L.l g).1 _ _ h2) (λacc i ys H1 hi _ ha ⟨U,g,e,J,ah,hT⟩=>?_) λacc ys H1 ha ⟨U,g,e,J,ah,hT⟩=>?_
 .obtain⟨c,hc⟩: ∃c,t.bs[i]?=some c:=(41:);obtain⟨cv,ao,ap⟩:=h3.get hc;have ex:(vs[i]?).getD .non=cv:=by rw [ao];rfl
  rw [ex];have ai:t.bs.take (i+1)=t.bs.take i++[c]:=by rw [List.take_add_one,hc];rfl
  have Z:addPs ps (clL (t.bs.take (i+1)))=addPs (addPs ps (clL (t.bs.take i))) ((clP c).map (·.1)):=by rw [ai,Je,Zl]
  have aj:acc≠Y:=λz=>by rw [z,L.l]at ha;cases ha
  refine⟨cv,Y,c,_,U,rfl,ap.mono (KeepT.ls L.l g),an c (List.mem_of_getElem? hc),J,?_,λv' aq H2 g2 ae ar=>?_⟩
  .rw [<-Z];exact Nat.le_trans (VL ps t.bs (i+1)) hz
  .have k2:=KeepT.ls (K:=K) J.l g2;have ea:=g2 _ _ aj e;refine⟨ea,aq,λb u nb eb=>?_,Qb,⟨?_,ZO (λ_ _ h=>SqT.put h ea) ae.p,by rw [ae.e,Z]⟩,by simp [ah],λr=>?_⟩
   .rw [Qg (Qd eb ha)];exact g2 _ _ nb (g _ _ nb eb)
   .rw [Qg (λz=>aj z.symm)];exact ae.l
   .obtain⟨r1,as⟩:=Zm (l:=(clP c).map (·.1)) (ps:=addPs ps (clL (t.bs.take i)));have af:=hT (r1++r);rw [<-List.append_assoc,<-as,<-Z]at af;have ag:=ar r;rw [<-Z]at ag;rw [ai]at af ag ⊢;rw [ZX,List.map_append,<-ZX];exact TmAll.append (af.mono λ_ _ h=>SqT.put (k2.1 _ _ h) ea) (.cons (ag.mono λ_ _ h=>SqT.put h ea) .nil)
 have k1:=KeepT.ls (K:=K) L.l g;rw [ak,List.take_length]at J hT;refine⟨a,_,rfl,k1.1 _ _ h1,(by show ¬(HT.sIx 5 0 none=0/\HT.sIx 5 5 (some 4)=5);decide),λp1 au=>?_⟩;have g2:=Qc au (.tup [.str PUT,.str nm,.bl k,.int ad]);have d2:SqT K (upd H1 p1 (.tup [.str PUT,.str nm,.bl k,.int ad])) p1 [.str PUT,.str nm,.bl k,.int ad]:=SqT.of Qb;show G3.rTupOf K [.ref acc] (upd H1 p1 (.tup [.str PUT,.str nm,.bl k,.int ad])) _;generalize upd H1 p1 (.tup [.str PUT,.str nm,.bl k,.int ad])=H2 at g2 d2;refine .l ys (SqL.of (g2 _ _ e)) λpt H3 g3 d3=>⟨λpr H4 g4 d4 _=>.a _ _ ((g3.trans g4).seqT d2) d4 (by show 4+1<=sizeLine;decide) λpx H5 g5 d5=>?_⟩;have ab:=g2.trans (g3.trans (g4.trans g5));refine q _ U H5 (λb u nb eb=>ab _ _ (g b u nb eb)) ⟨ab _ _ J.l,ZO (λ_ _=>ab.seqT) J.p,J.e⟩ λr=>?_;have em:∀g,mpP g t=.node (.put nm k ad) 0 (Jb g t.bs):=λg=>by
  conv=>lhs;rw [et,mpP]
 rw [em];exact .put d5 ((g4.trans g5).seqT d3) ((hT r).mono λ_ _=>ab.seqT) (6:)
theorem YW(F:Fun K "_law_numbered" "_law_numbered" ZE f fd)(G:Gm mg)(hb:Binds K fd ["_law_term","_law_pairs"] [])(hm:mg "_law_numbered"=some (82:)):∀n:Nat,FnOk P w K mg base CX0 (n+1) f fd ["_law_term","_law_pairs"] (QZ K n)
 | 0=>⟨λvs H Q E h=>by obtain⟨v,J,t,ps,L,rfl,_⟩:=h;rfl,λA outer s H U Z vs Q E _ _ _ _ h=>by obtain⟨v,J,t,ps,L,_,_,Y,_⟩:=h;rw [Q8]at Y;lia⟩
 | n+1=>WK F G ⟨f,fd,YW F G hb hm n,hb,F.kp,hm⟩
end
end K65
namespace K65
open PySem L2 TM TT K9 K11
structure DueH(n:Nat)(ks2:List KdT)(t1 t2:Tm)(ms1 ms2:List MoT)(out:TP)(mk:MkP)(Ok:Pr->Prop):Prop where
 st:BR (ruK ks2 ms2) n t2 (.node (.put (Str.ofString "") false 0) 0 [t1]) out
 o0:∀c∈clP out,Ok c.1
 mo:∀p,Ok p->∃(i:Nat)(mo:MoT),p.1=(i:Int)/\ms1[i]?=some mo/\mo.2.2.2.2.length<=100/\Jj (ruK ks2 ms2) n p.2 mo.2.2.2.2 (mk p).2/\(mk p).1=mo.2.1
 cl:∀p,Ok p->∀c∈clL (mk p).2,Ok c
 lo:lv out<=30
 lm:∀p,Ok p->∀o∈(mk p).2,lv o<=30
 few:∀ps:List Pr,ps.Nodup->(∀p∈ps,Ok p)->ps.length<=40
def mkS(mk:MkP):MkX:=λp=>some (mk p)
def Y9(l:List TP):Prop:=∀o∈l,sz o<=200
open Classical in
def mkF(mk:MkP):MkX:=λp=>if ∀o∈(mk p).2,Y4 o then some (mk p)else none
theorem W8{ps:List Pr}{p:Pr}(h:ps.Nodup):(Ze ps p).Nodup:=by
 unfold Ze;split
 .exact h
 .rename_i e;rw [List.nodup_append];exact⟨h,by simp,λa G b J z=>e (by rw [<-List.mem_singleton.mp J,<-z];exact G)⟩
theorem Zu:∀{l ps:List Pr},ps.Nodup->(addPs ps l).Nodup
 | [],_,h=>h
 | _::l,_,h=>Zu (l:=l) (W8 h)
theorem YN{mk:MkX}:∀{F m:Nat}{ps qs:List Pr},QY mk F m ps=some qs->∃r,qs=ps++r
 | 0,_,_,_,h=>by rw [QY]at h;cases h
 | F+1,m,ps,qs,h=>by
  by_cases J:40<ps.length
  .rw [YD J]at h;cases h
  cases e:ps[m]? with
  | none=>rw [Zf (6:) e]at h;cases h;exact⟨[],(List.append_nil _).symm⟩
  | some p=>
   cases k:mk p with
   | none=>rw [XJ e k]at h;cases h
   | some o=>
    rw [Zi (6:) e k]at h;obtain⟨r,L⟩:=YN (F:=F) h;obtain⟨U,G⟩:=Zm (l:=clL o.2) (ps:=ps);exact⟨U++r,by rw [L,G,List.append_assoc]⟩
section
variable{n:Nat}{ks2:List KdT}{t1 t2:Tm}{ms1 ms2:List MoT}{out:TP}{mk:MkP}{Ok:Pr->Prop}
theorem DueH.next(D:DueH n ks2 t1 t2 ms1 ms2 out mk Ok){ps:List Pr}{p:Pr}(hn:ps.Nodup)(ho:∀p∈ps,Ok p)(hp:Ok p):(addPs ps (clL (mk p).2)).Nodup/\∀q∈addPs ps (clL (mk p).2),Ok q:=
 ⟨Zu hn,λq G=>(QN.mp G).elim (ho q) (D.cl p hp q)⟩
theorem DueH.run(D:DueH n ks2 t1 t2 ms1 ms2 out mk Ok):∀{F m:Nat}{ps:List Pr},ps.Nodup->(∀p∈ps,Ok p)->m<=ps.length->42<=F+m->∃qs,QY (mkS mk) F m ps=some qs
 | 0,m,ps,J,G,U,Y=>by have:=D.few ps J G;lia
 | F+1,m,ps,J,G,U,Y=>by
  have L:=D.few ps J G;cases e:ps[m]? with
  | none=>exact⟨ps,Zf L e⟩
  | some p=>
   have Z:=(List.getElem?_eq_some_iff.mp e).1;have hp:=G p (List.mem_of_getElem? e);obtain⟨a,b⟩:=D.next J G hp;rw [Zi L e (show mkS mk p=some (mk p)from rfl)];exact D.run (F:=F) a b (by have:=Ym (l:=clL (mk p).2) (ps:=ps);lia) (6:)
theorem DueH.runOk(D:DueH n ks2 t1 t2 ms1 ms2 out mk Ok):∀{F m:Nat}{ps qs:List Pr},ps.Nodup->(∀p∈ps,Ok p)->QY (mkS mk) F m ps=some qs->qs.Nodup/\∀p∈qs,Ok p
 | 0,_,_,_,_,_,h=>by rw [QY]at h;cases h
 | F+1,m,ps,qs,L,G,h=>by
  have J:=D.few ps L G;cases e:ps[m]? with
  | none=>rw [Zf J e]at h;cases h;exact⟨L,G⟩
  | some p=>
   rw [Zi J e (show mkS mk p=some (mk p)from rfl)]at h;obtain⟨a,b⟩:=D.next L G (G p (List.mem_of_getElem? e));exact D.runOk (F:=F) a b h
theorem Oz{F m:Nat}{ps qs:List Pr}(h:QY (mkS mk) F m ps=some qs):m<=ps.length->∀i,i<ps.length->qs[i]?=ps[i]?:=λ_ i hi=>by
 obtain⟨r,rfl⟩:=YN h;rw [List.getElem?_append_left hi]
theorem DueH.fitF(D:DueH n ks2 t1 t2 ms1 ms2 out mk Ok){p:Pr}(hp:Ok p)(h:Y9 (mk p).2):mkF mk p=some (mk p):=by
 unfold mkF;rw [if_pos λo G=>⟨h o G,D.lm p hp o G⟩]
theorem Ar{p:Pr}(h:¬Y9 (mk p).2):mkF mk p=none:=by
 unfold mkF;rw [if_neg λz=>h λo G=>(z o G).1]
theorem DueH.same(D:DueH n ks2 t1 t2 ms1 ms2 out mk Ok):∀{F m:Nat}{ps qs:List Pr},ps.Nodup->(∀p∈ps,Ok p)->QY (mkS mk) F m ps=some qs->(∀p∈qs,Y9 (mk p).2)->QY (mkF mk) F m ps=some qs
 | 0,_,_,_,_,_,h,_=>by rw [QY]at h;cases h
 | F+1,m,ps,qs,L,J,h,U=>by
  have G:=D.few ps L J;cases e:ps[m]? with
  | none=>rw [Zf G e]at h;cases h;exact Zf G e
  | some p=>
   have hp:=J p (List.mem_of_getElem? e);obtain⟨a,b⟩:=D.next L J hp;obtain⟨r,Y⟩:=YN h;rw [Zi G e (show mkS mk p=some (mk p)from rfl)]at h;rw [Zi G e (D.fitF hp (U p (by rw [Y];exact List.mem_append_left _ (List.mem_of_getElem? e))))];exact D.same (F:=F) a b h U
theorem DueH.stop(D:DueH n ks2 t1 t2 ms1 ms2 out mk Ok):∀{F m:Nat}{ps qs:List Pr},ps.Nodup->(∀p∈ps,Ok p)->QY (mkS mk) F m ps=some qs->∀(i:Nat) p,m<=i->qs[i]?=some p->¬Y9 (mk p).2->QY (mkF mk) F m ps=none
 | 0,_,_,_,_,_,h,_,_,_,_,_=>by rw [QY]at h;cases h
 | F+1,m,ps,qs,Z,Y,h,i,p,hi,hp,hf=>by
  have G:=D.few ps Z Y;cases e:ps[m]? with
  | none=>
   rw [Zf G e]at h;cases h;have:=(List.getElem?_eq_some_iff.mp hp).1;have:=List.getElem?_eq_none_iff.mp e;lia
  | some p0=>
   have L:=Y p0 (List.mem_of_getElem? e);obtain⟨a,b⟩:=D.next Z Y L;have U:=(List.getElem?_eq_some_iff.mp e).1;have hq:=Oz h (Nat.le_of_lt U) m U
   by_cases J:Y9 (mk p0).2
   .rw [Zi G e (show mkS mk p0=some (mk p0)from rfl)]at h;rw [Zi G e (D.fitF L J)];have:m≠i:=λz=>by
     rw [<-z,hq,e]at hp;cases hp;exact hf J
    exact D.stop (F:=F) a b h i p (6:) hp hf
   .exact XJ e (Ar J)
theorem T5(D:DueH n ks2 t1 t2 ms1 ms2 out mk Ok){qs:List Pr}(ho:∀p∈qs,Ok p)(hf:∀p∈qs,Y9 (mk p).2):dQ (mkD (mkF mk)) qs=dQ mk qs:=by
 unfold dQ;refine List.map_congr_left λp hp=>?_;rw [UU (D.fitF (ho p hp) (hf p hp))]
end
def Ge(K:Fg)(n:Nat):Sp:=λvs H Q _=>∃(on ot wd1 wd2 lm1 lm2:Addr)(sv1 sv2:V)(ks1 ks2:List KdT)(t1 t2:Tm)(ms1 ms2:List MoT)(nm2 n2:Nat)(out:TP)(mk:MkP)(Ok:Pr->Prop)(qs:List Pr),vs=[.ref on,.ref ot]/\TuAt K H on wd1 sv1 lm1 ks1 t1 ms1/\TuAt K H ot wd2 sv2 lm2 ks2 t2 ms2/\TuOk ks2 nm2 n2 t2 ms2/\DueH n ks2 t1 t2 ms1 ms2 out mk Ok/\QY (mkS mk) 42 0 (addPs [] ((clP out).map (·.1)))=some qs/\
 ∀(p du lm:Addr)(sv:V)(ms:List MoT)(g:Bool)(H':Hp),Same H H'->SqT K H' p [.bl g,.ref du]->TuAt K H' du wd1 sv lm ks1 (mpP (ixP qs) out) ms->dM ms=dQ mk qs->(g=true↔ ¬(sz out<=200/\∀p∈qs,Y9 (mk p).2))->Q (.ref p) H'
abbrev Ac:List Str:=["_law_one","_law_other","_law_read","_law_pairs","_law_start","_law_great_here","_law_modes","_law_first","_law_second","_law_kind","_law_terms","_law_rules","_law_term","_law_rule_here"]
def Aj:List G3.S:=[.set 2 (.tup [.k (.str "put"),.k (.str ""),.k (.bl false),.k (.int 0),.tup [.ix (.v 0) (56:)]]),.set 3 (.lst []),.set 4 (.call 0 [.v 1,.ix (.v 1) (56:),.v 2]),.set 5 (.cmp .Gt (.call 1 [.v 4]) (.k (.int 200))),.set 4 (.call 2 [.v 4,.v 3]),.set 6 (.lst []),.wh (.cmp .Lt (.call 3 [.v 6]) (.call 3 [.v 3])) [.unp [7,8] (.ix (.v 3) (.call 3 [.v 6])),.unp [9,10] (.ix (.ix (.v 0) (.k (.int 2))) (.v 7)),.set 11 (.lst []),.forL 12 (.v 10) [.set 13 (.call 0 [.v 1,.tup [.k (.str "call"),.v 8,.k (.int 0)],.tup [.k (.str "put"),.k (.str ""),.k (.bl false),.k (.int 0),.tup [.v 12]]]),.cut (.set 5 (.oo (.v 5) (.cmp .Gt (.call 1 [.v 13]) (.k (.int 200))))),.ex (.meth 0 (.v 11) [.call 2 [.v 13,.v 3]])],.ex (.meth 0 (.v 6) [.tup [.v 9,.v 11]])],.ret (.tup [.v 5,.tup [.ix (.v 0) (78:),.v 4,.v 6]])]
def Ah(K:Fg)(n:Nat):G3.En:=⟨K,[λ_ vs H Q=>Vc K (n+1) vs H Q E0,λ_ vs H Q=>ZU K 30 vs H Q E0,λ_ vs H Q=>QZ K 30 vs H Q E0,λ_ vs H Q=>G3.rLen K vs H Q],[G3.mApp K],[],[]⟩
section
variable{P:Program}{w:World}{K:Fg}{mg:Str->Option Value}{base:Heap}{f:Addr}{fd:FuncData}
theorem S2:FnScope Ac ["_law_one","_law_other"] (defScope R8):=(0:)
structure MdR(K:Fg)(H:Hp)(lp lm:Addr)(m:MoT):Prop where
 t:SqT K H m.1 [.str m.2.1,.ref m.2.2.1]
 l:H m.2.2.1=some (.lst m.2.2.2.1)
 np:m.2.2.1≠lp
 nm:m.2.2.1≠lm
 a:TmAll K H m.2.2.2.1 m.2.2.2.2
theorem P9{n:Nat}(F:Fun K "_law_due" "_law_due" R8 f fd)(G:Gm mg)(RO:Fn P w K mg base (n+3) "_law_on" ["_law_other","_law_rule_here","_law_term"] (Vc K (n+1)))(RC:Fn P w K mg base 31 "_law_count" ["_law_term"] (ZU K 30))(RN:Fn P w K mg base 31 "_law_numbered" ["_law_term","_law_pairs"] (QZ K 30)):FnOk P w K mg base CX0 (n+35) f fd ["_law_one","_law_other"] (Ge K n):=by
 refine G3.Fun.okC F S2 (Ah K n) Aj (k:=n+34) (λX c=>⟨.cons (c.fn RO (6:)) (.cons (c.fn RC (6:)) (.cons (c.fn RN (6:)) (.cons (96:) .nil))),.cons (c.meth G3.m_append) .nil,.nil⟩) (11:) (λH vs Q E h=>?_) G.rng
 .obtain⟨on,ot,b6,ax,b7,ay,b8,an,ks1,ks2,t1,t2,ms1,ms2,az,n2,out,mk,Ok,L,rfl,_⟩:=h
  rfl
 obtain⟨on,ot,b6,ax,b7,ay,b8,an,ks1,ks2,t1,t2,ms1,ms2,az,n2,out,mk,Ok,L,rfl,U,ao,bf,D,a0,q⟩:=h;refine .t _ _ U.tu rfl ⟨λp1 X1 k1 d1 _=>⟨λp2 X2 k2 d2 _=>⟨λlp X3 k3 e3 n3=>.t _ _ ((k1.trans (k2.trans k3)).seqT ao.tu) rfl ?_⟩⟩⟩;have g3:=k1.trans (k2.trans k3);have ap:H lp=none:=Same.none (k1.trans k2) n3;refine⟨ot,ax,ay,an,ks2,t2,ms2,az,n2,an,.ref p2,t2,_,out,rfl,ao.same g3,bf,tmS g3 ao.st,.put (k3.seqT d2) ((k2.trans k3).seqT d1) (.cons (tmS g3 U.st) .nil) (by show 1<=1000;decide),Pf D.st,λv4 H4 g4 bg=>⟨v4,out,rfl,bg,D.lo,?_⟩⟩;have a1:∀p∈addPs [] ((clP out).map (·.1)),Ok p:=λp hp=>by
  rcases QN.mp hp with z | z
  .cases z
  .obtain⟨c,hc,rfl⟩:=List.mem_map.mp z;exact D.o0 c hc
 have a3:(addPs [] ((clP out).map (·.1))).Nodup:=Zu List.nodup_nil;have cv:=D.few _ a3 a1;refine⟨v4,lp,out,[],[],rfl,bg,D.lo,⟨g4 _ _ e3,λt ht=>(nomatch ht),rfl⟩,by lia,λv5 b9 H5 g5 aq ca=>⟨λlm H6 k6 e6 n6=>?_⟩⟩;have bi:Same H H5:=λb u e=>g5 _ _ (Qd e ap) (g4 _ _ (g3 _ _ e));have cb:H lm=none:=Same.none bi n6;have bj:lm≠lp:=λz=>by rw [z,aq.l]at n6;cases n6
 have b3:TmV K H6 v5 (mpP (ixP L) out):=by
  obtain⟨r,er⟩:=YN a0;rw [er];exact tmS k6 (ca r)
 refine .w (λF σ H'=>∃m ps ts ms gr c7 c8 c9 bn bo ab ac,σ=[some (.ref on),some (.ref ot),some (.ref p2),some (.ref lp),some v5,some (.bl gr),some (.ref lm),c7,c8,c9,bn,bo,ab,ac]/\QY (mkS mk) F m ps=some L/\ps.Nodup/\(∀p∈ps,Ok p)/\m<=ps.length/\Same H H'/\PrsAt K H' lp ps ts/\H' lm=some (.lst (ms.map λm:MoT=>V.ref m.1))/\(∀J∈ms,MdR K H' lp lm J)/\ms.length=m/\dM ms=(L.take m).map (λp=>((mk p).1,(mk p).2.map (mpP (ixP L))))/\TmV K H' v5 (mpP (ixP L) out)/\(gr=true↔ ¬(sz out<=200/\∀p∈L.take m,Y9 (mk p).2))) 42 ⟨0,_,b9,[],_,_,_,_,_,_,_,_,rfl,a0,a3,a1,Nat.zero_le _,bi.trans k6,⟨k6 _ _ aq.l,ZO (λ_ _=>k6.seqT) aq.p,aq.e⟩,e6,λJ hm=>(nomatch hm),rfl,rfl,b3,?_⟩ ?_
 .simp;lia
 rintro F _ H7 ⟨m,ps,ts,ms,gr,c7,c8,c9,bn,bo,ab,ac,rfl,hr,bp,a4,cw,g7,hP,aj,ar,ah,a5,bq,a6⟩;have a7:=D.few ps bp a4;have br:ts.length=ps.length:=by rw [<-hP.e,List.length_map]
 obtain⟨F',rfl⟩: ∃F',F=F'+1:=by
  cases F with
  | zero=>rw [QY]at hr;cases hr
  | succ F'=>exact⟨F',rfl⟩
 refine .l _ (SqL.of aj)<| .l _ (SqL.of hP.l)<|G3.iteI (λz=>?_) λz=>?_
 .rw [List.length_map,List.length_map,ah,br]at z;have hm:m<ps.length:=by lia
  have ep:=List.getElem?_eq_getElem hm;have as:=a4 _ (List.getElem_mem hm);generalize ps[m]=p at ep as;obtain⟨tt,bt,rfl⟩: ∃tt,ts[m]?=some tt/\tt.2=p:=by
   have:=ep;rw [<-hP.e,List.getElem?_map]at this;cases e:ts[m]? with
   | none=>rw [e]at this;cases this
   | some tt=>rw [e]at this;exact⟨tt,rfl,by simpa using this⟩
  rw [Zi a7 ep (show mkS mk tt.2=some (mk tt.2)from rfl)]at hr;obtain⟨a8,a9⟩:=D.next bp a4 as;have b4:=D.few _ a8 a9;obtain⟨rr,bu⟩:=YN hr;have cc:L[m]?=some tt.2:=by
   obtain⟨r',ce⟩:=Zm (l:=clL (mk tt.2).2) (ps:=ps);rw [bu,ce,List.append_assoc,List.getElem?_append_left hm];exact ep
  obtain⟨i0,J,cf,au,cg,ba,ch⟩:=D.mo _ as;have bb:=(U.same g7).mo J (List.mem_of_getElem? au);refine .l _ (SqL.of aj)<| .l _ (.ref tt.1) (SqL.of hP.l) (by rw [List.length_map,ah];exact Qo (by rw [List.getElem?_map,bt];rfl))<| .u _ (hP.p tt (List.mem_of_getElem? bt))<| .t _ _ (g7.seqT U.tu) rfl<| .l _ (.ref J.1) (g7.seq U.lm) (by rw [cf];exact Qo (by rw [List.getElem?_map,au];rfl))<| .u _ bb.1 ⟨λlr H8 k8 e8 n8=>?_⟩;have cx:H lr=none:=Same.none g7 n8;have bc:lr≠lp:=λz=>by rw [z,hP.l]at n8;cases n8
  have bv:lr≠lm:=λz=>by rw [z,aj]at n8;cases n8
  have cy:=bb.2.2.length;have cz:=ba.1;refine .f J.2.2.2.1 (λi σ H'=>∃af vs aa ab ac,σ=[some (.ref on),some (.ref ot),some (.ref p2),some (.ref lp),some v5,some (.bl aa),some (.ref lm),some (.int tt.2.1),some (.int tt.2.2),some (.str J.2.1),some (.ref J.2.2.1),some (.ref lr),ab,ac]/\SameX lp H7 H'/\PrsAt K H' lp (addPs ps (clL ((mk tt.2).2.take i))) af/\H' lr=some (.lst vs)/\vs.length=i/\TmAll K H' vs (((mk tt.2).2.take i).map (mpP (ixP L)))/\(aa=true↔ ¬((sz out<=200/\∀p∈L.take m,Y9 (mk p).2)/\∀o∈(mk tt.2).2.take i,sz o<=200))) ⟨ts,[],gr,_,_,rfl,λb u _ e=>k8 _ _ e,⟨k8 _ _ hP.l,ZO (λ_ _=>k8.seqT) hP.p,hP.e⟩,e8,rfl,.nil,by simpa using a6⟩ ?_ ?_ ?_
  .rintro i _ H' _ ⟨af,vs,aa,ab,ac,rfl,gx,_⟩;have gs:Same H H':=λb u e=>gx _ _ (Qd e ap) (g7 _ _ e);exact(U.same gs).mo J (List.mem_of_getElem? au) |>.2.1
  .rintro i x _ H9 hx ⟨af,vs,aa,ab,ac,rfl,gx,Y,av,bw,hT,aw⟩;have gs:Same H H9:=λb u e=>gx _ _ (Qd e ap) (g7 _ _ e);have hi:=(72:).1;have eo:=List.getElem?_eq_getElem (show i<(mk tt.2).2.length by lia);have bx:=List.getElem_mem (show i<(mk tt.2).2.length by lia);generalize (mk tt.2).2[i]=o at eo bx;obtain⟨t,et⟩: ∃t,J.2.2.2.2[i]?=some t:=(41:);obtain⟨xv,bz,ci⟩:=((U.same gs).mo J (List.mem_of_getElem? au)).2.2.get et;rw [hx]at bz;cases bz;have b0:=D.lm _ as o bx;have ag:(mk tt.2).2.take (i+1)=(mk tt.2).2.take i++[o]:=by rw [List.take_add_one,eo];rfl
   have ak:addPs ps (clL ((mk tt.2).2.take (i+1)))=addPs (addPs ps (clL ((mk tt.2).2.take i))) ((clP o).map (·.1)):=by rw [ag,Je,Zl]
   have ct:(addPs ps (clL ((mk tt.2).2.take (i+1)))).length<=40:=Nat.le_trans (VL ps _ _) b4;obtain⟨rq,cj⟩: ∃r,L=addPs ps (clL ((mk tt.2).2.take (i+1)))++r:=by
    have e1:clL (mk tt.2).2=clL ((mk tt.2).2.take (i+1))++clL ((mk tt.2).2.drop (i+1)):=by
     unfold clL;rw [<-List.map_append,<-UR,List.take_append_drop]
    obtain⟨r1,ck⟩:=Zm (l:=clL ((mk tt.2).2.drop (i+1))) (ps:=addPs ps (clL ((mk tt.2).2.take (i+1))));exact⟨r1++rr,by rw [bu,e1,Zl,ck,List.append_assoc]⟩
   refine⟨λpa Xa ka da _=>⟨λpb Xb kb db _=>⟨λpc Xc kc dc _=>?_⟩⟩⟩;have al:=ka.trans (kb.trans kc);refine⟨ot,ax,ay,an,ks2,t2,ms2,az,n2,.ref pa,.ref pc,OD tt.2.2 0,.node (.put (Str.ofString "") false 0) 0 [t],o,rfl,ao.same (gs.trans al),bf,.call ((kb.trans kc).seqT da),.put dc (kc.seqT db) (.cons (tmS al ci) .nil) (by show 1<=1000;decide),?_,λv He ge hv=>?_⟩
   .rw [BR];exact⟨_,_,_,rfl,t,Int.le_refl _,rfl,ba.2 i t o et eo⟩
   have ad:=al.trans ge;refine .c (λcu H'=>∃g2:Bool,cu=[some (.ref on),some (.ref ot),some (.ref p2),some (.ref lp),some v5,some (.bl g2),some (.ref lm),some (.int tt.2.1),some (.int tt.2.2),some (.str J.2.1),some (.ref J.2.2.1),some (.ref lr),some x,some v]/\H'=He/\(g2=true↔aa=true\/¬sz o<=200)) ?_ ?_
   .cases aa with
    | true=>exact⟨true,rfl,rfl,by simp⟩
    | false=>exact⟨v,o,rfl,hv,b0,_,rfl,rfl,by simp;lia⟩
   .rintro _ He ⟨g2,rfl,rfl,cm⟩;refine⟨G3.tyL (ad _ _ av),v,lp,o,_,af,rfl,hv,b0,⟨ad _ _ Y.l,ZO (λ_ _=>ad.seqT) Y.p,Y.e⟩,by rw [<-ak];lia,λv' cn Hf gf bd co=>?_⟩;have kf:=KeepT.ls (K:=K) (ad _ _ Y.l) gf;have ai:=gf _ _ bc (ad _ _ av);refine⟨lr,vs,_,rfl,rfl,ai,by rw [show sizeLine=16777216 by decide];lia,cn,_,g2,_,_,rfl,λb u nb e=>?_,⟨?_,ZO (λ_ _ h=>SqT.put h ai) bd.p,by rw [bd.e,ak]⟩,Qb,by simp [bw],?_,?_⟩
    .rw [Qg (Qd e n8)];exact gf _ _ nb (ad _ _ (gx _ _ nb e))
    .rw [Qg (λz=>bc z.symm)];exact bd.l
    .have b1:=co rq;rw [<-ak,<-cj]at b1;rw [ag,List.map_append];exact TmAll.append (hT.mono λ_ _ h=>SqT.put (kf.1 _ _ (ad.seqT h)) ai) (.cons (b1.mono λ_ _ h=>SqT.put h ai) .nil)
    .rw [cm,aw,ag];constructor
     .rintro(z | z) ⟨a,b⟩
      .exact z ⟨a,λo ho=>b o (List.mem_append_left _ ho)⟩
      .exact z (b o (21:))
     .intro z
      by_cases ho:sz o<=200
      .refine .inl λ⟨a,b⟩=>z ⟨a,λo' cp=>?_⟩;rcases List.mem_append.mp cp with y | y
       .exact b o' y
       .rw [List.mem_singleton.mp y];exact ho
      .exact .inr ho
  .rintro _ H9 ⟨af,vs,aa,ab,ac,rfl,gx,Y,av,bw,hT,aw⟩;have am:=gx _ _ bj aj;have gs:Same H H9:=λb u e=>gx _ _ (Qd e ap) (g7 _ _ e);have kx:=KeepT.ls (K:=K) hP.l gx;have cq:(mk tt.2).2.take J.2.2.2.1.length=(mk tt.2).2:=List.take_of_length_le (6:);rw [cq]at Y hT aw;refine⟨G3.tyL am,⟨λpm Xm km dm _=>⟨lm,_,_,rfl,rfl,km _ _ am,by rw [List.length_map,show sizeLine=16777216 by decide];lia,?_⟩⟩⟩;have Z:=km _ _ am;have ag:L.take (m+1)=L.take m++[tt.2]:=by rw [List.take_add_one,cc];rfl
   refine⟨F',Nat.lt_succ_self _,m+1,_,af,ms++[(pm,J.2.1,lr,vs,(mk tt.2).2.map (mpP (ixP L)))],aa,_,_,_,_,_,_,_,rfl,hr,a8,a9,?_,λb u e=>?_,⟨?_,ZO (λ_ _ h=>SqT.put (km.seqT h) Z) Y.p,Y.e⟩,by rw [Qb,List.map_append];rfl,λcr b5=>?_,by simp [ah],?_,bq.mono λ_ _ h=>SqT.put (km.seqT (kx.1 _ _ h)) Z,?_⟩
   .have:=Ym (l:=clL (mk tt.2).2) (ps:=ps);lia
   .rw [Qg (Qd e cb)];exact km _ _ (gs _ _ e)
   .rw [Qg (λz=>bj z.symm)];exact km _ _ Y.l
   .rcases List.mem_append.mp b5 with z | z
    .have h:=ar cr z;exact⟨SqT.put (km.seqT (kx.1 _ _ h.t)) Z,by rw [Qg h.nm];exact km _ _ (gx _ _ h.np h.l),h.np,h.nm,h.a.mono λ_ _ q=>SqT.put (km.seqT (kx.1 _ _ q)) Z⟩
    .rw [List.mem_singleton.mp z];exact⟨SqT.put dm Z,by rw [Qg bv];exact km _ _ av,bc,bv,hT.mono λ_ _ q=>SqT.put (km.seqT q) Z⟩
   .have:dM (ms++[(pm,J.2.1,lr,vs,(mk tt.2).2.map (mpP (ixP L)))])=dM ms++[(J.2.1,(mk tt.2).2.map (mpP (ixP L)))]:=by unfold dM;rw [List.map_append];rfl
    rw [this,a5,ag,List.map_append,<-ch]
    rfl
   .rw [aw,ag];constructor
    .rintro z ⟨a,b⟩;exact z ⟨⟨a,λp hp=>b p (List.mem_append_left _ hp)⟩,b tt.2 (21:)⟩
    .rintro z ⟨⟨a,b⟩,c⟩;refine z ⟨a,λp hp=>?_⟩;rcases List.mem_append.mp hp with y | y
     .exact b p y
     .rw [List.mem_singleton.mp y];exact c
 .rw [List.length_map,List.length_map,ah,br]at z;have hm:m=ps.length:=by lia
  rw [Zf a7 (List.getElem?_eq_none_iff.mpr (6:))]at hr;cases hr;rw [List.take_of_length_le (6:)]at a5 a6;refine .t _ _ (g7.seqT U.tu) rfl ⟨λpa Xa ka da _=>⟨λpb Xb kb db _=>?_⟩⟩;have ae:=ka.trans kb;refine q pb pa lm v5 ms gr Xb (g7.trans ae) db ⟨kb.seqT da,U.wd.same (g7.trans ae),tmS ae bq,SqL.of (ae _ _ aj),λJ be=>⟨ae.seqT (ar J be).t,SqL.of (ae _ _ (ar J be).l),(ar J be).a.mono λ_ _=>ae.seqT⟩⟩ a5 a6
end
end K65
namespace K65
open PySem L2 TM TT K9 K11
theorem JR{d:Nat}:∀{D:List (Str×List Tm)},(∀m∈D,PyData.strOk m.1=true/\∀t∈m.2,MOk d t)->PyData.canLayAll0 (D.map Wu)=true/\PyData.depthAll (D.map Wu)<=d+2
 | [],_=>by simp [PyData.canLayAll0,PyData.depthAll]
 | m::r,h=>by
  obtain⟨h1,h2⟩:=JR λx G=>h x (34:);obtain⟨J,a2⟩:=h m List.mem_cons_self;obtain⟨L,b2⟩:=XI m.2 a2;simp only [List.map_cons,PyData.canLayAll0,PyData.depthAll,Wu,PyData.canLay0,PyData.depth,J,L,h1,Bool.and_self,Bool.true_and,true_and];lia
theorem Ni{ws:List (Str×List PNx)}{t:Tm}{D:List (Str×List Tm)}{d:Nat}(h1:PyData.canLayAll0 (ws.map Zj)=true)(h2:MOk d t)(h3:∀m∈D,PyData.strOk m.1=true/\∀t∈m.2,MOk d t):(tuD ws t D).canLay0=true/\(tuD ws t D).depth<=d+10:=by
 obtain⟨G,a2⟩:=h2;obtain⟨J,b2⟩:=JR h3;have c:=Ul ws;unfold tuD;simp only [PyData.canLay0,PyData.canLayAll0,PyData.depth,PyData.depthAll,h1,G,J,Bool.and_self,Bool.true_and,true_and];lia
theorem Gq{ks:List KdT}(h:WoodOk ks){kind name:Str}{ss:List Str}(e:Qv ks kind name=some ss):PyData.strOk name=true:=by
 unfold Qv at e;cases G:(rowsK ks kind).find? λr=>decide (r.2.1=name)with
 | none=>rw [G]at e;cases e
 | some r=>
  have J:=List.mem_of_find?_eq_some G;have L:r.2.1=name:=by simpa using List.find?_some G
  rw [<-L];exact(YR h kind).nm r J
theorem V3{ks:List KdT}{cls:List Cl}{n:Nat}{bs:List Tm}{kinds:List Str}(hl:bs.length=kinds.length)(h:∀(i:Nat) b kd,bs[i]?=some b->kinds[i]?=some kd->Ty ks cls n b kd){b:Tm}(hb:b∈bs):∃kd∈kinds,Ty ks cls n b kd:=by
 obtain⟨i,hi,rfl⟩:=List.getElem_of_mem hb;have e:=List.getElem?_eq_getElem (show i<kinds.length by lia);exact⟨_,List.getElem_mem (show i<kinds.length by lia),h i _ _ (List.getElem?_eq_getElem hi) e⟩
theorem Y3{ks:List KdT}(hO:WoodOk ks){cls:List Cl}{nm:Nat}(hc:∀c∈cls,c.1<nm):∀{n:Nat}{t:Tm}{kind:Str},Ty ks cls n t kind->TmB nm n t/\MOk (2*n) t
 | 0,_,_,h=>h.elim
 | n+1,t,kind,.inl ⟨c,hm,L,_⟩=>by
  rw [L];refine⟨⟨λm b e=>?_,by show 0<=100;decide,λb J=>(nomatch J)⟩,(Gy _ _ 0 []).mono (6:)⟩;have:=hc c hm;injection e with e1 e2;lia
 | n+1,t,kind,.inr ⟨nn,k,a,bs,Z,L,U,Y,J⟩=>by
  rw [L];have h4:=(Og hO U).2;refine⟨⟨λm b e=>(nomatch e),by show bs.length<=100;lia,λb G=>?_⟩,LW (d:=2*n) (Gq hO U) λb G=>?_⟩
  .obtain⟨kd,_,h⟩:=V3 Y J G;exact(Y3 hO hc h).1
  .obtain⟨kd,_,h⟩:=V3 Y J G;exact(Y3 hO hc h).2
theorem Y8{ks:List KdT}{cls:List Cl}:∀{n:Nat}{t:Tm}{kind:Str},Ty ks cls n t kind->okk (Qv ks) n t kind/\∀d∈dmd (Qv ks) n t kind,∃c∈cls,d=((c.1:Int),c.2.2)
 | 0,_,_,h=>h.elim
 | n+1,t,kind,.inl ⟨c,hm,L,ek⟩=>by
  rw [L];refine⟨trivial,λd U=>⟨c,hm,?_⟩⟩;have:d∈[((c.1:Int),kind)]:=U;rw [List.mem_singleton.mp this,ek]
 | n+1,t,kind,.inr ⟨nn,k,a,bs,G,L,Y,Z,hb⟩=>by
  rw [L];have hz:∀p∈bs.zip G,Ty ks cls n p.1 p.2:=λp hp=>by
   obtain⟨i,hi,rfl⟩:=List.getElem_of_mem hp;rw [List.getElem_zip];rw [List.length_zip]at hi;exact hb i _ _ (List.getElem?_eq_getElem (6:)) (List.getElem?_eq_getElem (6:))
  refine⟨⟨G,Y,Z.symm,λp hp=>(Y8 (hz p hp)).1⟩,λd U=>?_⟩;have J:d∈(match Qv ks kind nn with | some ss=>if ss.length=bs.length then(bs.zip ss).flatMap λp:Tm×Str=>dmd (Qv ks) n p.1 p.2 else [] | none=>[]):=U;rw [Y]at J;dsimp only at J;rw [if_pos Z.symm]at J;obtain⟨p,hp,aa⟩:=List.mem_flatMap.mp J;exact(Y8 (hz p hp)).2 d aa
theorem WF.wg{ks:List KdT}(h:WF ks):WG ks:=⟨h.ok,λk J r L s U=>by
 obtain⟨k',G,e⟩:=List.mem_map.mp ((h.kf k J).cl r L s U);exact⟨k',G,e⟩⟩
section
variable{ks ko:List KdT}{os:List Ow}{t0:Tm}{ms:List MoT}
theorem ClOk.lt{bs:List Str}{c:Cl}(h:ClOk bs os c):c.1<os.length:=by
 obtain⟨o,e,_⟩:=h;exact(List.getElem?_eq_some_iff.mp e).1
theorem Psg.rule(h:Psg ks ko os t0 ms){m:MoT}(hm:m∈ms):∃(i:Nat)(o:Ow),ms[i]?=some m/\os[i]?=some o/\m.2.1=o.1/\m.2.2.2.2.length=(rowsK ks o.1).length/\∀t∈m.2.2.2.2,∃r∈rowsK ks o.1,∃cls,(∀c∈cls,ClOk r.2.2.2 os c)/\Ty ko cls 3 t o.2:=by
 obtain⟨i,hi,rfl⟩:=List.getElem_of_mem hm;have e1:=List.getElem?_eq_getElem hi;obtain⟨o,e2⟩: ∃o,os[i]?=some o:=⟨_,List.getElem?_eq_getElem (by rw [<-h.ml];exact hi)⟩;obtain⟨a,b,c⟩:=h.mo i _ o e1 e2;refine⟨i,o,e1,e2,a,b,λt G=>?_⟩;obtain⟨j,J,rfl⟩:=List.getElem_of_mem G;have e3:=List.getElem?_eq_getElem (show j<(rowsK ks o.1).length by lia);obtain⟨cls,d,e⟩:=c j _ _ e3 (List.getElem?_eq_getElem J);exact⟨_,List.getElem_mem _,cls,d,e⟩
theorem Psg.tuOk(h:Psg ks ko os t0 ms)(hF:WF ks)(hO:WF ko):TuOk ks ms.length 3 t0 ms:=by
 obtain⟨Z,q0,_,_,_,cls,J,L⟩:=h.o0;refine⟨hF.ok,rfl,(Y3 hO.ok (λc G=>by rw [h.ml];exact(J c G).lt) L).1,λm G=>?_,λm G=>?_,λm G t U=>?_⟩<;>obtain⟨i,o,e1,e2,e3,e4,Y⟩:=h.rule G
 .rw [e3];exact(h.ok o (List.mem_of_getElem? e2)).1
 .rw [e3];exact e4.symm
 .obtain⟨r,hr,cls,J,L⟩:=Y t U;exact(Y3 hO.ok (λc G=>by rw [h.ml];exact(J c G).lt) L).1
theorem Psg.lay(h:Psg ks ko os t0 ms)(hF:WF ks)(hO:WF ko):(tuD (dW ks) t0 (dM ms)).canLay0=true/\(tuD (dW ks) t0 (dM ms)).depth<=16:=by
 obtain⟨k0,q0,_,_,_,cls,J,L⟩:=h.o0;refine Ni (d:=6) (Ua hF.nm hF.ok.rows) (Y3 hO.ok (nm:=os.length) (λc G=>(J c G).lt) L).2 λd U=>?_;obtain⟨m,G,rfl⟩:=List.mem_map.mp U;obtain⟨i,o,e1,e2,e3,e4,Y⟩:=h.rule G;refine⟨?_,λt Z=>?_⟩
 .obtain⟨k,hk,ek⟩:=(h.ok o (List.mem_of_getElem? e2)).1;show PyData.strOk m.2.1=true;rw [e3,<-ek];exact hF.nm k hk
 .obtain⟨r,hr,cls,J,L⟩:=Y t Z;exact(Y3 hO.ok (nm:=os.length) (λc G=>(J c G).lt) L).2
theorem Psg.fine(h:Psg ks ko os t0 ms){q0:KdT}(hq:ko[0]?=some q0){ds:List Dd}(D:Dem (Qv ko) 3 t0 q0.2.1 ms ds):okk (Qv ko) 3 t0 q0.2.1/\∀d∈ds,okR (Qv ko) 3 ms d:=by
 obtain⟨k0,ac,_,aa,_,cls,Z,L⟩:=h.o0;rw [hq]at aa;cases aa;have S:∀d∈ds,∃(i:Nat)(o:Ow),d.1=(i:Int)/\os[i]?=some o/\o.2=d.2:=by
  refine D.lt _ (λd U=>?_) (λd U e he=>?_)
  .obtain⟨c,hm,rfl⟩:=(Y8 L).2 d U;obtain⟨o,eo,_,ek⟩:=Z c hm;exact⟨c.1,o,rfl,eo,ek.symm⟩
  .obtain⟨i,o,e1,e2,e3⟩:=U;obtain⟨t,G,ab⟩:=List.mem_flatMap.mp he;unfold Yh at G;rw [e1,Int.toNat_natCast]at G;cases J:ms[i]? with
   | none=>rw [J]at G;cases G
   | some m=>
    rw [J]at G;have G:t∈m.2.2.2.2:=G;obtain⟨j,o',f1,f2,f3,f4,f5⟩:=h.rule (List.mem_of_getElem? J);obtain⟨a1,a2,a3⟩:=h.mo i m o J e2;obtain⟨Y,hj,rfl⟩:=List.getElem_of_mem G;obtain⟨cls,Z,L⟩:=a3 Y _ _ (List.getElem?_eq_getElem (show Y<(rowsK ks o.1).length by lia)) (List.getElem?_eq_getElem hj);rw [<-e3]at ab;obtain⟨c,hm,rfl⟩:=(Y8 L).2 e ab;obtain⟨o2,eo,_,ek⟩:=Z c hm;exact⟨c.1,o2,rfl,eo,ek.symm⟩
 refine⟨(Y8 L).1,λd U t G=>?_⟩;obtain⟨i,o,e1,e2,e3⟩:=S d U;unfold Yh at G;rw [e1,Int.toNat_natCast]at G;cases J:ms[i]? with
 | none=>rw [J]at G;cases G
 | some m=>
  rw [J]at G;have G:t∈m.2.2.2.2:=G;obtain⟨a1,a2,a3⟩:=h.mo i m o J e2;obtain⟨Y,hj,rfl⟩:=List.getElem_of_mem G;obtain⟨cls,Z,L⟩:=a3 Y _ _ (List.getElem?_eq_getElem (show Y<(rowsK ks o.1).length by lia)) (List.getElem?_eq_getElem hj);rw [<-e3];exact(Y8 L).1
theorem Psg.ru(h:Psg ks ko os t0 ms){j:Nat}{o:Ow}(ho:os[j]?=some o){nm:Str}{kinds:List Str}(e:Qv ks o.1 nm=some kinds):∃r,ruK ks ms (j:Int) nm=some r/\∃cls,(∀c∈cls,ClOk kinds os c)/\Ty ko cls 3 r o.2:=by
 obtain⟨m,L⟩: ∃m,ms[j]?=some m:=⟨_,List.getElem?_eq_getElem (by rw [h.ml];exact(List.getElem?_eq_some_iff.mp ho).1)⟩;obtain⟨U,a2,G⟩:=h.mo j m o L ho;unfold ruK;rw [if_pos (6:),Int.toNat_natCast,L];show ∃r,(((rowsK ks m.2.1).zip m.2.2.2.2).find? λp=>decide (p.1.2.1=nm)).map (·.2)=some r/\_;rw [U];unfold Qv at e;generalize rowsK ks o.1=Y at a2 G e;generalize m.2.2.2.2=J at a2 G;clear L U
 induction Y generalizing J with
 | nil=>cases e
 | cons r Y Z=>
  cases J with
  | nil=>cases a2
  | cons t J=>
   rw [List.zip_cons_cons,List.find?_cons];rw [List.find?_cons]at e
   by_cases z:r.2.1=nm
   .rw [decide_eq_true z]at e;have:r.2.2.2=kinds:=by simpa using e
    obtain⟨cls,hc,hT⟩:=G 0 r t rfl rfl;exact⟨t,by rw [show decide ((r,t).1.2.1=nm)=true from decide_eq_true z];rfl,cls,this ▸ hc,hT⟩
   .rw [decide_eq_false z]at e;rw [show decide ((r,t).1.2.1=nm)=false from decide_eq_false z];exact Z e J (by simpa using a2) λjj r' t' h1 h2=>G (jj+1) r' t' h1 h2
end
theorem XA{α β:Type}{R:α->β->Prop}:∀{l:List α},(∀a∈l,∃b,R a b)->∃bs:List β,bs.length=l.length/\∀(i:Nat) a b,l[i]?=some a->bs[i]?=some b->R a b
 | [],_=>⟨[],rfl,λi a b h=>(nomatch h)⟩
 | x::l,h=>by
  obtain⟨b,L⟩:=h x List.mem_cons_self;obtain⟨bs,e,U⟩:=XA λa G=>h a (34:);refine⟨b::bs,by simp [e],λi a c G J=>?_⟩;cases i with
  | zero=>cases G;cases J;exact L
  | succ i=>exact U i a c (by simpa using G) (by simpa using J)
def OkP(os1 os2:List Ow)(p:Pr):Prop:=∃(i j:Nat)(o1 o2:Ow),p=((i:Int),(j:Int))/\os1[i]?=some o1/\os2[j]?=some o2/\o1.2=o2.1
structure Gd(Ok:Pr->Prop)(l:Nat)(o:TP):Prop where
 lv:lv o<=l
 ok:∀g,MOk (2*l) (mpP g o)
 cl:∀c∈clP o,Ok c.1
theorem Gd.mono{Ok:Pr->Prop}{l l':Nat}{o:TP}(h:Gd Ok l o)(e:l<=l'):Gd Ok l' o:=⟨Nat.le_trans h.lv e,λg=>(h.ok g).mono (6:),h.cl⟩
theorem Ji{c:Pr×Int}:∀{l:List TP},c∈Zb l->∃o∈l,c∈clP o
 | [],h=>by rw [Zb]at h;cases h
 | o::l,h=>by
  rw [Zb]at h;rcases List.mem_append.mp h with z | z
  .exact⟨o,List.mem_cons_self,z⟩
  .obtain⟨o',a,b⟩:=Ji z;exact⟨o',List.mem_cons_of_mem _ a,b⟩
section
variable{ks2 ks3:List KdT}{os1 os2:List Ow}{t2:Tm}{ms2:List MoT}
theorem MV(hO:WoodOk ks3){M L:Nat}(hL:1<=L){read:Tm}{rn:Str}{rk:Bool}{ra:Int}(hr:lab read=.put rn rk ra){bks:List Str}(hlen:read.bs.length=bks.length)
 (hP:∀(i:Nat) part (j:Nat) o2,read.bs[i]?=some part->bks[i]?=some o2.1->os2[j]?=some o2->∀n,M<=n->∃out,BM (ruK ks2 ms2) n (j:Int) part out/\Gd (OkP os1 os2) L out):
 ∀{b:Nat}{rule:Tm}{kind:Str}{cls:List Cl},(∀c∈cls,ClOk bks os2 c)->Ty ks3 cls b rule kind->∀n,b+M<=n->∃out,BR (ruK ks2 ms2) n rule read out/\Gd (OkP os1 os2) (b-1+L) out
 | 0,_,_,_,_,h,_,_=>h.elim
 | b+1,rule,kind,cls,hc,.inl ⟨c,J,et,_⟩,n,hn=>by
  obtain⟨o2,e1,e2,e3⟩:=hc c J;obtain⟨U,rfl⟩: ∃U,n=U+1:=⟨n-1,by lia⟩;obtain⟨part,ep⟩: ∃part,read.bs[c.2.1]?=some part:=⟨_,List.getElem?_eq_getElem (by rw [hlen];exact(List.getElem?_eq_some_iff.mp e2).1)⟩;obtain⟨out,Z,hg⟩:=hP c.2.1 part c.1 o2 ep e2 e1 U (6:);refine⟨out,?_,hg.mono (6:)⟩;rw [et,BR];exact⟨_,_,_,hr,part,by lia,by rw [Int.toNat_natCast];exact ep,Z⟩
 | b+1,rule,kind,cls,hc,.inr ⟨nn,k,a,bs,ad,et,er,hl,hb⟩,n,hn=>by
  obtain⟨U,rfl⟩: ∃U,n=U+1:=⟨n-1,by lia⟩;obtain⟨G,ol,Z⟩:=XA (R:=λr o=>BR (ruK ks2 ms2) U r read o/\Gd (OkP os1 os2) (b-1+L) o) (l:=bs) λr ab=>by
   obtain⟨kd,_,h⟩:=V3 hl hb ab;exact MV hO hL hr hlen hP hc h U (6:)
  have Y:∀o∈G,b≠0/\Gd (OkP os1 os2) (b-1+L) o:=λo J=>by
   obtain⟨i,hi,rfl⟩:=List.getElem_of_mem J;have e1:=List.getElem?_eq_getElem (show i<bs.length by lia);refine⟨λz=>?_,(Z i _ _ e1 (List.getElem?_eq_getElem hi)).2⟩;obtain⟨kd,_,h⟩:=V3 hl hb (List.getElem_mem (show i<bs.length by lia));rw [z]at h;exact h
  refine⟨.node (.put nn (k&&rk) (if k=true then a+ra else a)) 0 G,?_,?_,λg=>?_,λc aa=>?_⟩
  .rw [et,BR];exact⟨_,_,_,hr,G,rfl,ol,λi p q hp hq=>(Z i p q hp hq).1⟩
  .rw [Q8];have:lvs G<=b+L-1:=Vq λo J=>by
    obtain⟨z,h⟩:=Y o J;have:=h.lv;lia
   show 1+lvs G<=_;lia
  .rw [mpP,ZX];refine(LW (d:=2*(b+L)-2) (Gq hO er) λt ht=>?_).mono (6:);obtain⟨o,J,rfl⟩:=List.mem_map.mp ht;obtain⟨z,h⟩:=Y o J;exact(h.ok g).mono (6:)
  .rw [clP]at aa;obtain⟨o,J,ac⟩:=Ji aa;exact(Y o J).2.cl c ac
theorem Lu(h2:Psg ks2 ks3 os2 t2 ms2)(hF3:WF ks3){cls1:List Cl}(hc1:∀c∈cls1,∃o,os1[c.1]?=some o/\c.2.2=o.2):∀{a:Nat}{t:Tm}{kind:Str},Ty ks2 cls1 a t kind->∀(j:Nat)(o2:Ow),os2[j]?=some o2->o2.1=kind->∀n,4*a<=n->∃out,BM (ruK ks2 ms2) n (j:Int) t out/\Gd (OkP os1 os2) (2*a+1) out
 | 0,_,_,h,_,_,_,_,_,_=>h.elim
 | a+1,t,kind,.inl ⟨c,hm,J,ek⟩,j,o2,Y,Z,n,hn=>by
  obtain⟨U,rfl⟩: ∃U,n=U+1:=⟨n-1,by lia⟩;obtain⟨o1,e1,e2⟩:=hc1 c hm;refine⟨.node (.call (c.1:Int) (j:Int) (c.2.1:Int)) 0 [],?_,?_,λg=>?_,λx hx=>?_⟩
  .rw [J,BM];rfl
  .rw [Q8];show 1+lvs []<=_;simp [lvs]
  .rw [mpP];exact(Gy _ _ 0 []).mono (6:)
  .rw [clP]at hx;rw [List.mem_singleton.mp hx];exact⟨c.1,j,o1,o2,rfl,e1,Y,by rw [<-e2,ek,Z]⟩
 | a+1,t,kind,.inr ⟨nn,k,ad,bs,G,J,er,hl,hb⟩,j,o2,Y,Z,n,hn=>by
  obtain⟨U,rfl⟩: ∃U,n=U+1:=⟨n-1,by lia⟩;obtain⟨r,ab,cls,hc,hT⟩:=h2.ru Y (nm:=nn) (kinds:=G) (by rw [Z];exact er);obtain⟨out,ho,hg⟩:=MV (ks2:=ks2) (ms2:=ms2) (os1:=os1) (os2:=os2) hF3.ok (M:=4*a) (L:=2*a+1) (6:) (read:=t) (by rw [J];rfl) (bks:=G) (by rw [J];exact hl) (λi aa jj o hp ac ae n hn=>by
   rw [J]at hp;exact Lu h2 hF3 hc1 (hb i aa o.1 hp ac) jj o ae rfl n hn) hc hT U (6:)
  refine⟨out,?_,hg.mono (6:)⟩;rw [BM];have:lab t=.put nn k ad:=by rw [J];rfl
  rw [this];exact⟨r,ab,ho⟩
end
section
variable{ks1 ks2 ks3:List KdT}{os1 os2:List Ow}{t1 t2:Tm}{ms1 ms2:List MoT}
theorem OE{os1 os2:List Ow}(h1:os1.length<=3)(h2:os2.length<=3)(ps:List Pr)(hn:ps.Nodup)(ho:∀p∈ps,OkP os1 os2 p):ps.length<=40:=by
 have:=Vj (r:=([0,1,2]:List Int).flatMap λi=>([0,1,2]:List Int).map λj=>(i,j)) hn λp hp=>by
  obtain⟨i,j,J,L,rfl,e1,e2,_⟩:=ho p hp;have a:=(List.getElem?_eq_some_iff.mp e1).1;have b:=(List.getElem?_eq_some_iff.mp e2).1;have hi:i=0\/i=1\/i=2:=by lia
  have G:j=0\/j=1\/j=2:=by lia
  rcases hi with rfl | rfl | rfl<;>rcases G with rfl | rfl | rfl<;>decide
 exact Nat.le_trans this (18:)
theorem Rz(h1:Psg ks1 ks2 os1 t1 ms1)(h2:Psg ks2 ks3 os2 t2 ms2)(hF1:WF ks1)(hF2:WF ks2)(hF3:WF ks3):∃(out:TP)(mk:MkP),DueH 15 ks2 t1 t2 ms1 ms2 out mk (OkP os1 os2)/\(∀g,MOk 18 (mpP g out))/\∀p,OkP os1 os2 p->PyData.strOk (mk p).1=true/\∀o∈(mk p).2,∀g,MOk 18 (mpP g o):=by
 obtain⟨k0,q0,e0,f0,_,am,ac,ad⟩:=h1.o0;obtain⟨ap,aq,ab,ar,_,an,ae,af⟩:=h2.o0;rw [f0]at ab;cases ab;have c1:∀{bs:List Str}{cls:List Cl},(∀c∈cls,ClOk bs os1 c)->∀c∈cls,∃o,os1[c.1]?=some o/\c.2.2=o.2:=λh c Y=>by
  obtain⟨o,a,_,b⟩:=h c Y;exact⟨o,a,b⟩
 obtain⟨out,ag,hg⟩:=MV (ks2:=ks2) (ms2:=ms2) (os1:=os1) (os2:=os2) hF3.ok (M:=12) (L:=7) (18:) (read:=.node (.put (Str.ofString "") false 0) 0 [t1]) rfl (bks:=[q0.2.1]) rfl (λi ao j o2 hp Z hj n hn=>by
  cases i with
  | zero=>
   cases hp;have Z:q0.2.1=o2.1:=by simpa using Z
   exact Lu h2 hF3 (c1 ac) ad j o2 hj Z.symm n hn
  | succ i=>cases hp) ae af 15 (by decide)
 have ah:∀p,∃o:Str×List TP,OkP os1 os2 p->∃(i:Nat)(G:MoT),p.1=(i:Int)/\ms1[i]?=some G/\G.2.2.2.2.length<=100/\Jj (ruK ks2 ms2) 15 p.2 G.2.2.2.2 o.2/\o.1=G.2.1/\PyData.strOk G.2.1=true/\∀u∈o.2,Gd (OkP os1 os2) 7 u:=λp=>by
  by_cases hp:OkP os1 os2 p
  .obtain⟨i,j,o1,o2,rfl,ei,ej,ai⟩:=hp;obtain⟨G,em⟩: ∃G,ms1[i]?=some G:=⟨_,List.getElem?_eq_getElem (by rw [h1.ml];exact(List.getElem?_eq_some_iff.mp ei).1)⟩;obtain⟨a1,a2,a3⟩:=h1.mo i G o1 em ei;obtain⟨k,Z,ek⟩:=(h1.ok o1 (List.mem_of_getElem? ei)).1;obtain⟨aa,ol,J⟩:=XA (R:=λt o=>BM (ruK ks2 ms2) 15 (j:Int) t o/\Gd (OkP os1 os2) 7 o) (l:=G.2.2.2.2) λt ht=>by
    obtain⟨jj,aj,rfl⟩:=List.getElem_of_mem ht;obtain⟨cls,Y,hT⟩:=a3 jj _ _ (List.getElem?_eq_getElem (show jj<(rowsK ks1 o1.1).length by lia)) (List.getElem?_eq_getElem aj);exact Lu h2 hF3 (c1 Y) hT j o2 ej ai.symm 15 (18:)
   refine⟨(G.2.1,aa),λ_=>⟨i,G,rfl,em,?_,⟨ol,λx t o ht ak=>(J x t o ht ak).1⟩,rfl,by rw [a1,<-ek];exact hF1.nm k Z,λu hu=>?_⟩⟩
   .rw [a2];exact Nat.le_trans (YR hF1.ok o1.1).len (18:)
   .have hu:u∈aa:=hu;obtain⟨x,hx,rfl⟩:=List.getElem_of_mem hu;exact(J x _ _ (List.getElem?_eq_getElem (show x<G.2.2.2.2.length by lia)) (List.getElem?_eq_getElem hx)).2
  .exact⟨(S [],[]),λz=>absurd z hp⟩
 obtain⟨mk,U⟩:=Classical.axiomOfChoice ah;refine⟨out,mk,⟨ag,hg.cl,λp hp=>?_,λp hp c Y=>?_,Nat.le_trans hg.lv (18:),λp hp o J=>?_,OE h1.l3 h2.l3⟩,hg.ok,λp hp=>?_⟩
 .obtain⟨i,G,a,b,c,d,e,_⟩:=U p hp;exact⟨i,G,a,b,c,d,e⟩
 .obtain⟨i,G,a,b,_,d,e,_,f⟩:=U p hp;unfold clL at Y;obtain⟨x,hx,rfl⟩:=List.mem_map.mp Y;obtain⟨o,J,al⟩:=Ji hx;exact(f o J).cl x al
 .obtain⟨i,G,a,b,_,d,e,_,f⟩:=U p hp;exact Nat.le_trans (f o J).lv (18:)
 .obtain⟨i,G,a,b,_,d,e,s,f⟩:=U p hp;exact⟨by rw [e];exact s,λo J g=>((f o J).ok g).mono (18:)⟩
end
theorem DueH.bh{n:Nat}{ks2:List KdT}{t1 t2:Tm}{ms1 ms2:List MoT}{out:TP}{mk:MkP}{Ok:Pr->Prop}(D:DueH n ks2 t1 t2 ms1 ms2 out mk Ok):Bh n ks2 t1 t2 ms1 ms2 out (mkF mk) Ok:=by
 refine⟨D.st,λ_=>D.o0,λp hp=>?_,λp o hp e c G=>?_⟩
 .obtain⟨i,J,a,b,c,d,e⟩:=D.mo p hp;refine⟨i,J,(mk p).2,a,b,c,d,λh=>?_,λh=>?_⟩
  .unfold mkF;rw [if_pos h,<-e]
  .unfold mkF;rw [if_neg h]
 .unfold mkF at e;split at e
  .cases e;exact D.cl p hp c G
  .cases e
end K65
namespace K65
open PySem L2 TM TT K9 K11
def Xw(K:Fg):Sp:=λvs H Q _=>∃(tu wd lm:Addr)(sv:V)(ks:List KdT)(t0:Tm)(ms:List MoT),vs=[.ref tu]/\TuAt K H tu wd sv lm ks t0 ms/\ks.length<=100/\ms.length<=100/\
 ∀(tu' lw lm':Addr)(ks':List KdT)(ms':List MoT)(H':Hp),Same H H'->H' tu'=some (.tup [.ref lw,sv,.ref lm'])->NewWd K H H' lw ks'->dW ks'=dW ks->NewMo K H H' lm' ms'->dM ms'=dM ms->lw≠lm'->(∀k∈ks',k.2.2.1≠lm'/\k.2.2.1≠lw/\∀m∈ms',k.2.2.1≠m.2.2.1)->(∀m∈ms',lw≠m.2.2.1)->Q (.ref tu') H'
section
variable{P:Program}{w:World}{K:Fg}{mg:Str->Option Value}{base:Heap}{f:Addr}{fd:FuncData}
theorem Nn:FnScope ["_law_turning","_law_wood_here"] ["_law_turning"] (defScope NG):=(0:)
theorem NQ(F:Fun K "_law_copy" "_law_copy" NG f fd)(G:Gm mg):FnOk P w K mg base CX0 1 f fd ["_law_turning"] (Xw K):=by
 refine F.ok Nn (11:) (λap A outer s H vs Q E hr h=>?_)
 .obtain⟨tu,wd,lm,sv,ks,t0,ms,rfl,_⟩:=h
  rfl
 obtain⟨tu,wd,lm,sv,ks,t0,ms,rfl,hT,ao,an,q⟩:=h;have hW:=hT.wd;refine⟨_,(Qh (VQ (i:=1) (CompG.many (xs:=["_law_kind","_law_rows"]) (caps:=[]) (cap:=[]) (cs:=[]) rfl rfl (1:) (1:) (1:) (1:) (1:) (1:) rfl rfl rfl) rfl (QG (4:)) (Gp (CompG.many (xs:=["_law_kind","_law_rows"]) (caps:=[]) (cap:=[]) (cs:=[]) rfl rfl (1:) (1:) (1:) (1:) (1:) (1:) rfl rfl rfl) rfl) (92:) (55:) Nn.nd rfl rfl)
  (Qi (Ql (Qx (Qa (pv 1) (Qa (4:) (Qa (QH (CompG.many (xs:=["_law_kind","_law_rules"]) (caps:=[]) (cap:=[]) (cs:=[]) rfl rfl (1:) (1:) (1:) (1:) (1:) (1:) rfl rfl rfl) rfl (QG (4:)) (Gp (CompG.many (xs:=["_law_kind","_law_rules"]) (caps:=[]) (cap:=[]) (cs:=[]) rfl rfl (1:) (1:) (1:) (1:) (1:) (1:) rfl rfl rfl) rfl) (92:) (55:)) Qe))))))),?_⟩
 try dsimp only [Qn,Cx.nox]
 refine⟨_,rfl,tu,_,0,_,rfl,rfl,hT.tu,rfl,wd,rfl,⟨_,hW.1⟩,λacc ag=>?_⟩;refine UG (K:=K) (xs:=ks.map λt=>V.ref t.1) (cs:=[]) (tt:=λ_ H Q=>Q true H) (λj ys H'=>∃Z:List KdT,ys=Z.map (λk=>V.ref k.1)/\dW Z=dW (ks.take j)/\H' acc=some (.lst ys)/\Same H H'/\∀k∈Z,SqT K H' k.1 [.str k.2.1,.ref k.2.2.1]/\H' k.2.2.1=some (.lst (k.2.2.2.map λt=>V.ref t.1))/\H k.2.2.1=none/\k.2.2.1≠acc/\∀t∈k.2.2.2,RowAt K H' t)
  ⟨[],rfl,rfl,Qb,Qc ag _,λk hk=>(nomatch hk)⟩ ?_ ?_ ?_
 .rintro j ys H' _ ⟨_,_,_,_,g,_⟩;exact g.seq hW.1
 .rintro j x ys H' hj hx ⟨Z,rfl,hd,hy,g,hA⟩;rw [List.length_map]at hj;obtain rfl:x=.ref ks[j].1:=by
   rw [List.getElem?_map,List.getElem?_eq_getElem hj]at hx;exact(Option.some.inj hx).symm
  obtain⟨k1,k2⟩:=hW.2 ks[j] (List.getElem_mem hj);refine⟨_,_,_,rfl,g.seqT k1,Zk ⟨_,rfl,_,rfl,ks[j].2.2.1,_,rfl,.inl (g.seq k2.1),λL Y=>⟨(30:),λp hp=>?_⟩⟩⟩;have s1:=Qc Y (42:);have b1:upd H' L (42:) L=some (42:):=Qb;generalize upd H' L (42:)=X1 at s1 b1 hp ⊢;have s2:=Qc hp (.tup [.str ks[j].2.1,.ref L]);have b2:upd X1 p (.tup [.str ks[j].2.1,.ref L]) p=some (.tup [.str ks[j].2.1,.ref L]):=Qb;generalize upd X1 p (.tup [.str ks[j].2.1,.ref L])=X2 at s2 b2 ⊢;have J:=s1.trans s2;have aj:Z.length=j:=by
   have:=congrArg List.length hd;unfold dW at this;rw [List.length_map,List.length_map,List.length_take]at this;lia
  have nl:L≠acc:=λz=>by rw [z,hy]at Y;cases Y
  have nH:H L=none:=by
   cases e:H L with
   | none=>rfl
   | some u=>rw [g _ _ e]at Y;cases Y
  have U:=J _ _ hy;rw [List.length_map];refine QB hj U (36:) ⟨Z++[(p,ks[j].2.1,L,ks[j].2.2.2)],by simp,?_,Qb,λb u e=>?_,λk hk=>?_⟩
  .unfold dW at hd ⊢;rw [List.map_append,hd,List.take_add_one,List.getElem?_eq_getElem hj,Option.toList_some,List.map_append];rfl
  .rw [Qg (Qd e ag)];exact J _ _ (g _ _ e)
  .rcases List.mem_append.mp hk with hk | hk
   .obtain⟨a1,a2,a3,a4,a5⟩:=hA k hk;exact⟨(J.seqT a1).put U,by rw [Qg a4];exact J _ _ a2,a3,a4,λt ht=>⟨(J.seqT (a5 t ht).1).put U,(J.seqT (a5 t ht).2).put U⟩⟩
   .obtain rfl:=List.mem_singleton.mp hk;exact⟨(SqT.of b2).put U,by rw [Qg nl];exact s2 _ _ b1,nH,nl,λt ht=>⟨((g.trans J).seqT (k2.2 t ht).1).put U,((g.trans J).seqT (k2.2 t ht).2).put U⟩⟩
 rintro ys H1 ⟨Z,rfl,hd,hy,g,hA⟩;rw [List.length_map,List.take_length]at hd;have al:NewWd K H H1 acc Z:=⟨ag,hy,λk hk=>⟨(hA k hk).1,(hA k hk).2.1,(hA k hk).2.2.1,(hA k hk).2.2.2.2⟩⟩;have af:=hT.same g;refine⟨_,rfl,_,rfl,tu,_,1,_,rfl,rfl,af.tu,rfl,_,rfl,tu,_,2,_,rfl,rfl,af.tu,rfl,lm,rfl,⟨_,af.lm⟩,λac ae=>?_⟩;refine UG (K:=K) (xs:=ms.map λt=>V.ref t.1) (cs:=[]) (tt:=λ_ H Q=>Q true H) (λj ys H'=>∃aa:List MoT,ys=aa.map (λk=>V.ref k.1)/\dM aa=dM (ms.take j)/\H' ac=some (.lst ys)/\Same H1 H'/\∀m∈aa,SqT K H' m.1 [.str m.2.1,.ref m.2.2.1]/\H' m.2.2.1=some (.lst m.2.2.2.1)/\H1 m.2.2.1=none/\m.2.2.1≠ac/\TmAll K H' m.2.2.2.1 m.2.2.2.2)
  ⟨[],rfl,rfl,Qb,Qc ae _,λk hk=>(nomatch hk)⟩ ?_ ?_ ?_
 .rintro j ys H' _ ⟨_,_,_,_,g,_⟩;exact g.seq af.lm
 .rintro j x ys H' hj hx ⟨aa,rfl,ad,ah,g',ab⟩;rw [List.length_map]at hj;obtain rfl:x=.ref ms[j].1:=by
   rw [List.getElem?_map,List.getElem?_eq_getElem hj]at hx;exact(Option.some.inj hx).symm
  obtain⟨k1,k2,k3⟩:=af.mo ms[j] (List.getElem_mem hj);refine⟨_,_,_,rfl,g'.seqT k1,Zk ⟨_,rfl,_,rfl,ms[j].2.2.1,_,rfl,.inl (g'.seq k2),λL Y=>⟨(30:),λp hp=>?_⟩⟩⟩;have s1:=Qc Y (.lst ms[j].2.2.2.1);have b1:upd H' L (.lst ms[j].2.2.2.1) L=some (.lst ms[j].2.2.2.1):=Qb;generalize upd H' L (.lst ms[j].2.2.2.1)=X1 at s1 b1 hp ⊢;have s2:=Qc hp (.tup [.str ms[j].2.1,.ref L]);have b2:upd X1 p (.tup [.str ms[j].2.1,.ref L]) p=some (.tup [.str ms[j].2.1,.ref L]):=Qb;generalize upd X1 p (.tup [.str ms[j].2.1,.ref L])=X2 at s2 b2 ⊢;have J:=s1.trans s2;have aj:aa.length=j:=by
   have:=congrArg List.length ad;unfold dM at this;rw [List.length_map,List.length_map,List.length_take]at this;lia
  have nl:L≠ac:=λz=>by rw [z,ah]at Y;cases Y
  have nH:H1 L=none:=Same.none g' Y;have U:=J _ _ ah;rw [List.length_map];refine QB hj U (36:) ⟨aa++[(p,ms[j].2.1,L,ms[j].2.2.2.1,ms[j].2.2.2.2)],by simp,?_,Qb,λb u e=>?_,λk hk=>?_⟩
  .unfold dM at ad ⊢;rw [List.map_append,ad,List.take_add_one,List.getElem?_eq_getElem hj,Option.toList_some,List.map_append];rfl
  .rw [Qg (Qd e ae)];exact J _ _ (g' _ _ e)
  .rcases List.mem_append.mp hk with hk | hk
   .obtain⟨a1,a2,a3,a4,a5⟩:=ab k hk;exact⟨(J.seqT a1).put U,by rw [Qg a4];exact J _ _ a2,a3,a4,a5.mono λ_ _ h=>(J.seqT h).put U⟩
   .obtain rfl:=List.mem_singleton.mp hk;exact⟨(SqT.of b2).put U,by rw [Qg nl];exact s2 _ _ b1,nH,nl,k3.mono λ_ _ h=>((g'.trans J).seqT h).put U⟩
 rintro ys H2 ⟨aa,rfl,ad,ah,g',ab⟩;rw [List.length_map,List.take_length]at ad;refine⟨(98:),λam ak=>?_⟩;have k1:=Qc ak (.tup [.ref acc,sv,.ref ac]);have gA:=g'.trans k1;have ai:∀b u,H1 b=some u->b≠ac/\∀m∈aa,b≠m.2.2.1:=by
  intro b u e;refine⟨λz=>?_,λm hm z=>?_⟩
  .rw [z,ae]at e;cases e
  .have:=(ab m hm).2.2.1;rw [<-z,e]at this;cases this
 exact q am acc ac Z aa _ (g.trans gA) Qb (al.ext (Same.refl _) gA) hd ⟨Same.none g ae,k1 _ _ ah,λm hm=>⟨k1.seqT (ab m hm).1,k1 _ _ (ab m hm).2.1,Same.none g (ab m hm).2.2.1,(ab m hm).2.2.2.1,(ab m hm).2.2.2.2.mono λ_ _=>k1.seqT⟩⟩ ad
  (ai _ _ hy).1 (λk hk=>⟨(ai _ _ (hA k hk).2.1).1,(hA k hk).2.2.2.1,(ai _ _ (hA k hk).2.1).2⟩) (ai _ _ hy).2
end
end K65
namespace K65
open PySem L2 TM TT K9 K11
theorem W9{ms ms':List MoT}(e:dM ms'=dM ms){i:Nat}{m:MoT}(h:ms'[i]?=some m):∃m0,ms[i]?=some m0/\m.2.1=m0.2.1/\m.2.2.2.2=m0.2.2.2.2:=by
 have:=congrArg (λl:List (Str×List Tm)=>l[i]?) e;unfold dM at this;simp only [List.getElem?_map,h]at this;cases h2:ms[i]? with
 | none=>rw [h2]at this;cases this
 | some m0=>
  rw [h2]at this;have this:(m.2.1,m.2.2.2.2)=(m0.2.1,m0.2.2.2.2):=Option.some.inj this;exact⟨m0,rfl,(Prod.mk.inj this).1,(Prod.mk.inj this).2⟩
theorem L4{ms ms':List MoT}(e:dM ms'=dM ms):ms'.length=ms.length:=by
 have:=congrArg List.length e;unfold dM at this
 rwa [List.length_map,List.length_map]at this
theorem VC{ks ks':List KdT}(e:dW ks'=dW ks){i:Nat}{k:KdT}(h:ks'[i]?=some k):∃k0,ks[i]?=some k0/\k.2.1=k0.2.1/\k.2.2.2=k0.2.2.2:=by
 have:=congrArg (λl:List (Str×List PNx)=>l[i]?) e;unfold dW at this;simp only [List.getElem?_map,h]at this;cases h2:ks[i]? with
 | none=>rw [h2]at this;cases this
 | some k0=>
  rw [h2]at this;have this:(k.2.1,k.2.2.2)=(k0.2.1,k0.2.2.2):=Option.some.inj this;exact⟨k0,rfl,(Prod.mk.inj this).1,(Prod.mk.inj this).2⟩
theorem Nf{ks ks':List KdT}(e:dW ks'=dW ks):ks'.length=ks.length:=by
 have:=congrArg List.length e;unfold dW at this
 rwa [List.length_map,List.length_map]at this
theorem L6{ks ks':List KdT}(e:dW ks'=dW ks){k:KdT}(h:k∈ks'):∃k'∈ks,k'.2.1=k.2.1/\k'.2.2.2=k.2.2.2:=by
 obtain⟨i,hi,rfl⟩:=List.getElem_of_mem h;obtain⟨G,a,b,c⟩:=VC e (List.getElem?_eq_getElem hi);exact⟨G,List.mem_of_getElem? a,b.symm,c.symm⟩
theorem M3{ks ks':List KdT}(e:dW ks'=dW ks):(ks'.map λk=>k.2.1)=ks.map λk=>k.2.1:=by
 have:=congrArg (List.map Prod.fst) e;unfold dW at this;rw [List.map_map,List.map_map]at this;exact this
theorem V6{ks ks':List KdT}(e:dW ks'=dW ks){x:Str}(h:∃k∈ks,k.2.1=x):∃k∈ks',k.2.1=x:=by
 obtain⟨k,J,L⟩:=h;obtain⟨k',G,U,_⟩:=L6 e.symm J;exact⟨k',G,U.trans L⟩
theorem WF.of{ks ks':List KdT}(e:dW ks'=dW ks)(h:WF ks):WF ks':=by
 refine⟨WoodOk.dW e h.ok,by rw [Nf e];exact h.ne,by rw [Nf e];exact h.l3,λk J=>?_,λk J=>?_⟩<;>obtain⟨k',G,e1,e2⟩:=L6 e J
 .rw [<-e1];exact h.nm k' G
 .rw [<-e2,M3 e];exact h.kf k' G
theorem M6{ks ks':List KdT}(e:dW ks'=dW ks){cls:List Cl}:∀{n:Nat}{t:Tm}{kind:Str},Ty ks cls n t kind->Ty ks' cls n t kind
 | 0,_,_,h=>h
 | n+1,t,kind,.inl h=>.inl h
 | n+1,t,kind,.inr ⟨J,k,a,bs,G,L,U,Y,Z⟩=>.inr ⟨J,k,a,bs,G,L,by rw [N8 e];exact U,Y,λi b kd h1 h2=>M6 e (Z i b kd h1 h2)⟩
theorem Psg.of{ks ks' ko ko':List KdT}{os:List Ow}{t0:Tm}{ms ms':List MoT}(e1:dW ks'=dW ks)(e2:dW ko'=dW ko)(em:dM ms'=dM ms)(h:Psg ks ko os t0 ms):Psg ks' ko' os t0 ms':=by
 obtain⟨k0,q0,Y,a2,Z,cls,a4,a5⟩:=h.o0;obtain⟨J,b1,b2,_⟩:=VC e1.symm Y;obtain⟨L,c1,U,_⟩:=VC e2.symm a2;refine⟨h.l3,⟨J,L,b1,c1,by rw [<-b2,<-U];exact Z,cls,by rw [<-b2];exact a4,by rw [<-U];exact M6 e2 a5⟩,λo G=>⟨V6 e1 (h.ok o G).1,V6 e2 (h.ok o G).2⟩,by rw [L4 em];exact h.ml,λi m o hm G=>?_⟩;obtain⟨m0,d1,d2,d3⟩:=W9 em hm;obtain⟨f1,f2,f3⟩:=h.mo i m0 o d1 G;rw [UZ e1,d2,d3];refine⟨f1,f2,λj r t hr ht=>?_⟩;obtain⟨cls,g1,g2⟩:=f3 j r t hr ht;exact⟨cls,g1,M6 e2 g2⟩
theorem LK{ks ks':List KdT}{ms ms':List MoT}(ek:dW ks'=dW ks)(em:dM ms'=dM ms):ruK ks' ms'=ruK ks ms:=by
 funext m nm
 unfold ruK
 by_cases G:0<=m
 .rw [if_pos G,if_pos G];cases h1:ms'[m.toNat]? with
  | none=>
   have:=List.getElem?_eq_none_iff.mp h1;rw [L4 em]at this;rw [List.getElem?_eq_none_iff.mpr this]
   rfl
  | some J=>
   obtain⟨x,a,b,c⟩:=W9 em h1;rw [a];show(((rowsK ks' J.2.1).zip J.2.2.2.2).find? _).map _=(((rowsK ks x.2.1).zip x.2.2.2.2).find? _).map _;rw [UZ ek,b,c]
 .rw [if_neg G,if_neg G]
theorem DueH.of{n:Nat}{ks2 ks2':List KdT}{t1 t2:Tm}{ms1 ms2 ms1' ms2':List MoT}{out:TP}{mk:MkP}{Ok:Pr->Prop}(ek:dW ks2'=dW ks2)(e1:dM ms1'=dM ms1)(e2:dM ms2'=dM ms2)(D:DueH n ks2 t1 t2 ms1 ms2 out mk Ok):DueH n ks2' t1 t2 ms1' ms2' out mk Ok:=by
 refine⟨by rw [LK ek e2];exact D.st,D.o0,λp hp=>?_,D.cl,D.lo,D.lm,D.few⟩;obtain⟨i,J,a,b,c,d,e⟩:=D.mo p hp;obtain⟨G,f1,f2,f3⟩:=W9 e1.symm b;exact⟨i,G,a,f1,by rw [<-f3];exact c,by rw [LK ek e2,<-f3];exact d,by rw [<-f2];exact e⟩
end K65
namespace K65
open PySem L2 TM TT K9 K11
def VV(K:Fg)(T:Addr):Sp:=λvs H Q _=>∃(a:Addr)(ns:List Int),vs=[.ref a]/\SqL K H a (ns.map V.int)/\ns.length<=63/\H T=some (.tbl #[])/\∀H',Q (.bl true) H'
abbrev Rv:List Str:=["_law_script","_law_names_here","_law_woods","_law_one","_law_other","_law_handed","_law_refused","_law_found","_law_great_here","_law_due_here"]
def SV:List G3.S:=[.set 1 (.call 1 [.call 0 [.v 0,.k (.int 0)]]),.setC 2 (.comp 0 (.k (.int 3)) [1,0] (.call 2 [.call 0 [.v 2,.bin .Add (56:) (.v 0)],.v 1])),.set 3 (.call 3 [.v 0,.k (.int 4),.k (.int 2),.ix (.v 2) (78:),.ix (.v 2) (56:)]),.set 4 (.call 3 [.v 0,.k (.int 15),.k (.int 2),.ix (.v 2) (56:),.ix (.v 2) (.k (.int 2))]),.set 5 (.lst [.call 4 [.v 3],.call 4 [.v 4]]),.set 6 (.k (.bl false)),.set 7 (.k .non)]
def O7:List G3.S:=[.unp [8,9] (.call 5 [.v 3,.v 4]),.ite (.oo (.nd 0 [.v 5,.lst [.v 3,.v 4]]) (.nd 0 [.v 6,.v 8])) [.ret (.k (.bl false))] [],.ret (.oo (.v 6) (.call 6 [.v 7,.v 9]))]
def TF(K:Fg):G3.En:=⟨K,[λ_ vs H Q=>Uj K vs H Q E0,λ_ vs H Q=>UK K vs H Q E0,λ_ vs H Q=>XC K vs H Q E0,λ_ vs H Q=>Yj K vs H Q E0,λ_ vs H Q=>Xw K vs H Q E0,λ_ vs H Q=>Ge K 15 vs H Q E0,λ_ vs H Q=>Xn K 30 vs H Q E0],[],[G3.on2 (G3.EqD K true)],[]⟩
mutual
theorem Vo(g:Pr->Int):∀t:TP,lv (mpP g t)<=lv t
 | .node (.call i j b) m bs=>by
  rw [mpP,Q8,Q8];show 1+lvs []<=_;rw [lvs];lia
 | .node (.put n k a) m bs=>by
  rw [mpP,Q8,Q8];show 1+lvs (Jb g bs)<=1+lvs bs;have:=Gs g bs;lia
theorem Gs(g:Pr->Int):∀ts:List TP,lvs (Jb g ts)<=lvs ts
 | []=>by rw [Jb];exact Nat.le_refl _
 | t::r=>by
  rw [Jb,lvs,lvs];have:=Vo g t;have:=Gs g r;lia
end
theorem Wo{K:Fg}{H:Hp}{w acc:Addr}{ks:List KdT}{ys:List V}{o:HO}(h:WoodAt K H w ks)(e:H acc=some (.lst ys))(n1:w≠acc)(n2:∀k∈ks,k.2.2.1≠acc):WoodAt K (upd H acc o) w ks:=by
 have J:∀{b:Addr}{xs:List V},b≠acc->SqL K H b xs->SqL K (upd H acc o) b xs:=λL q=>by
  rcases q with(q | ⟨z,q⟩) | q
  .exact .inl (.inl (by rw [Qg L];exact q))
  .exact .inl (.inr ⟨z,by rw [Qg L];exact q⟩)
  .exact .inr q
 exact⟨J n1 h.1,λk G=>⟨(h.2 k G).1.put e,J (n2 k G) (h.2 k G).2.1,λt U=>⟨((h.2 k G).2.2 t U).1.put e,((h.2 k G).2.2 t U).2.put e⟩⟩⟩
def Sv(K:Fg)(T N NS:Addr):TS:=λD σ H=>∃h0 h1 hl,σ[5]?=some (some (.ref hl))/\SqL K H hl [.ref h0,.ref h1]/\Z2 K T N NS 3 15 [.ref h0,.ref h1] H (λv H'=>D.nx (σ.set 7 (some v)) H') λcls o H'=>o=none/\cls=.ref N/\D.nx (σ.set 6 (some (.bl true))) H'
section
variable{P:Program}{w:World}{K:Fg}{mg:Str->Option Value}{base:Heap}{f:Addr}{fd:FuncData}{T N NS:Addr}
theorem M5:FnScope Rv ["_law_script"] (defScope JG):=(0:)
theorem Os(hTG:mg "TooGreat"=some (.ref N))(hq:PySem.W.ktsIn K N "BaseException"=true)(RB:FnX P w K mg base 68 "behind" ["one","other"] (Z2 K T N NS 3 15))(cdv:Value)(A:Around)(outer:List Env)(s:Shared)(H:Hp)(E:XK)(hr:Room 68 (Qn CX0 P w K mg base Rv "law" (defScope JG) f cdv A outer s H E).nox.A):PS (Qn CX0 P w K mg base Rv "law" (defScope JG) f cdv A outer s H E).nox ((defBody JG).getD 7 (.Pass ⟨0,0,0,0⟩)) (Sv K T N NS):=by
 refine G3.ps_mono (Ps (C:=N) hTG hq rfl (λpins EE=>Qi (Qz (i:=7) M5.nd rfl (32:) (XR (EE:=EE) RB hr SA (Qa (Qk (r:=PL K) QP (pv 5) Qf (26:)) (Qa (Qk (r:=PL K) QP (pv 5) Qf (26:)) Qe)) (7:)))) (λa=>Qi (Qz (i:=6) M5.nd rfl (32:) ZZ))) λD σ H ⟨Z,h1,G,J,L,Y⟩=>?_;refine⟨λU cls o H'=>o=none/\cls=.ref N/\D.nx (U.set 6 (some (.bl true))) H',?_,?_⟩
 .exact⟨_,J,G,_,0,_,rfl,rfl,L,rfl,_,J,G,_,1,_,rfl,rfl,L,rfl,Y⟩
 .exact λU cls H' h=>⟨h.2.1,h.2.2⟩
theorem Ru(F:Fun K "law" "law" JG f fd)(G:Gm mg)(hTG:mg "TooGreat"=some (.ref N))(hq:PySem.W.ktsIn K N "BaseException"=true)(RC:Fn P w K mg base 1 "_law_cell_at" ["_law_script","_law_k"] (Uj K))(RN:Fn P w K mg base 2 "_law_names" ["_law_cell"] (UK K))(RW:Fn P w K mg base 2 "_law_wood" ["_law_cell","_law_names_here"] (XC K))(RP:Fn P w K mg base 5 "_law_passing" ML (Yj K))(RY:Fn P w K mg base 1 "_law_copy" ["_law_turning"] (Xw K))(RB:FnX P w K mg base 68 "behind" ["one","other"] (Z2 K T N NS 3 15))(RD:Fn P w K mg base 50 "_law_due" ["_law_one","_law_other"] (Ge K 15))(RE:Fn P w K mg base 32 "_law_same" ["_law_found","_law_due_here"] (Xn K 30)):FnOk P w K mg base CX0 69 f fd ["_law_script"] (VV K T):=by
 refine G3.Fun.okM F M5 (TF K) SV 7 (Sv K T N NS) O7 (nk:=[G3.shCmp .NotEq]) (λX c=>⟨.cons (c.fn RC) (.cons (c.fn RN) (.cons (c.fn RW) (.cons (c.fn RP) (.cons (c.fn RY) (.cons (c.fn RD) (.cons (c.fn RE) .nil)))))),.nil,.cons c.neD .nil⟩) (11:) (Os hTG hq RB) (λH vs Q E h=>?_) G.rng
 .obtain⟨a,ns,rfl,_⟩:=h
  rfl
 obtain⟨a,ns,rfl,hS,_,hT,q⟩:=h;refine⟨a,ns,0,rfl,by decide,hS,λc0=>⟨c0,rfl,λl1 H1 N1 g1 e1 bi bj bn=>⟨(54:),.m (λacc i ys H'=>Same H1 H'/\H' acc=some (.lst ys)/\∃ws:List (Addr×List KdT),ys=ws.map (λw=>V.ref w.1)/\ws.length=i/\∀w∈ws,WoodAt K H' w.1 w.2/\WF w.2/\w.1≠acc/\∀k∈w.2,k.2.2.1≠acc) (18:) (λacc H2 ha g e=>⟨g,e,[],rfl,rfl,λw hw=>(nomatch hw)⟩) (λacc i ys H2 h=>trivial) (λacc i ys H2 hi _ ha ⟨g,e,ws,ey,ar,ad⟩=>?_) λacc ys H2 ha ⟨g,e,ws,ey,ar,ad⟩=>?_⟩⟩⟩
 .refine⟨a,ns,1+(i:Int),rfl,by lia,(g1.trans g).seq hS,λc=>⟨c,l1,N1,rfl,SqL.of (g _ _ e1),bi,bj,bn,λlw H3 ks g3 hW hF nw nk=>?_⟩⟩;have e3:=g3 _ _ e;have al:∀{b:Addr},H2 b=none->b≠acc:=λhb z=>by rw [z,e]at hb;cases hb
  refine⟨e3,λb u eb=>?_,Qb,ws++[(lw,ks)],by rw [ey,List.map_append];rfl,by simp [ar],λw hw=>?_⟩
  .rw [Qg (Qd eb ha)];exact g3 _ _ (g _ _ eb)
  .rcases List.mem_append.mp hw with z | z
   .obtain⟨a1,a2,a3,a4⟩:=ad w z;exact⟨Wo (a1.same g3) e3 a3 a4,a2,a3,a4⟩
   .rw [List.mem_singleton.mp z];exact⟨Wo hW e3 (al nw) (λk hk=>al (nk k hk)),hF,al nw,λk hk=>al (nk k hk)⟩
 obtain⟨J,L,w2,rfl⟩: ∃J L w2,ws=[J,L,w2]:=by
  match ws,ar with
  | [J,L,w2],_=>exact⟨J,L,w2,rfl⟩
 subst ey;obtain⟨W0,F0,_⟩:=ad J (21:);obtain⟨W1,F1,_⟩:=ad L (21:);obtain⟨W2,F2,_⟩:=ad w2 (21:);have gA:=g1.trans g;refine .l _ _ (SqL.of e) rfl<| .l _ _ (SqL.of e) rfl ⟨a,J.1,L.1,ns,4,J.2,L.2,rfl,by decide,gA.seq hS,W0,F0,W1,F1,λon as ae os1 t1 ms1 H3 g3 au P1=>?_⟩;refine .l _ _ (SqL.of (g3 _ _ e)) rfl<| .l _ _ (SqL.of (g3 _ _ e)) rfl ⟨a,L.1,w2.1,ns,15,L.2,w2.2,rfl,by decide,(gA.trans g3).seq hS,W1.same g3,F1,W2.same g3,F2,λot av af os2 t2 ms2 H4 g4 aw P2=>?_⟩;have lW:∀{ks:List KdT},WF ks->ks.length<=100:=λh=>Nat.le_trans h.l3 (18:);have bo:ms1.length<=100:=by have:=P1.ml;have:=P1.l3;lia
 have bp:ms2.length<=100:=by have:=P2.ml;have:=P2.l3;lia
 refine⟨on,J.1,as,ae,J.2,t1,ms1,rfl,au.same g4,lW F0,bo,λh0 a7 a8 ka ma H5 g5 b5 bq am an ax _ _ _=>⟨ot,L.1,av,af,L.2,t2,ms2,rfl,aw.same g5,lW F1,bp,λh1 a9 ba kb mb H6 g6 b6 br ag ao ay _ _ _=>⟨λhl H7 U e7 n7=>?_⟩⟩⟩;obtain⟨out,mk,D,mo,mm⟩:=Rz P1 P2 F0 F1 F2;have aa:(addPs [] ((clP out).map (·.1))).Nodup:=Zu List.nodup_nil;have ab:∀p∈addPs [] ((clP out).map (·.1)),OkP os1 os2 p:=λp hp=>by
  rcases QN.mp hp with z | z
  .cases z
  .obtain⟨c,hc,rfl⟩:=List.mem_map.mp z;exact D.o0 c hc
 obtain⟨qs,ac⟩:=D.run aa ab (Nat.zero_le _) (F:=42) (m:=0) (18:);obtain⟨_,az⟩:=D.runOk aa ab ac;have ap:=P1.of am ag ax;have bb:=F0.of am;have ah:=F1.of ag;have bt:Psg kb w2.2 os2 t2 mb:=P2.of ag rfl ay;have D':DueH 15 kb t1 t2 ma mb out mk (OkP os1 os2):=D.of ag ax ay;have c0:TuAt K H7 h0 a7 ae a8 ka t1 ma:=⟨(g6.trans U).seqT (SqT.of b5),bq.wood.same (g6.trans U),tmS (g4.trans (g5.trans (g6.trans U))) au.st,SqL.of ((g6.trans U) _ _ an.at0),λm Y=>⟨(g6.trans U).seqT (an.mo m Y).1,SqL.of ((g6.trans U) _ _ (an.mo m Y).2.1),(an.mo m Y).2.2.2.2.mono λ_ _=>(g6.trans U).seqT⟩⟩;have c1:TuAt K H7 h1 a9 af ba kb t2 mb:=⟨U.seqT (SqT.of b6),br.wood.same U,tmS (g5.trans (g6.trans U)) aw.st,SqL.of (U _ _ ao.at0),λm Y=>⟨U.seqT (ao.mo m Y).1,SqL.of (U _ _ (ao.mo m Y).2.1),(ao.mo m Y).2.2.2.2.mono λ_ _=>U.seqT⟩⟩;have d0:TuAt K H7 on J.1 ae as J.2 t1 ms1:=au.same (g4.trans (g5.trans (g6.trans U)));have d1:TuAt K H7 ot L.1 af av L.2 t2 ms2:=aw.same (g5.trans (g6.trans U));have bc:H7 T=some (.tbl #[]):=(gA.trans (g3.trans (g4.trans (g5.trans (g6.trans U))))) _ _ hT;have rest:∀(rf:Bool)(fv:V)(H8:Hp),SameX T H7 H8->((rf=true/\¬(sz out<=200/\∀p∈qs,Y9 (mk p).2))\/(rf=false/\(sz out<=200/\∀p∈qs,Y9 (mk p).2)/\∃tu lw lm sv ks ms,fv=.ref tu/\TuAt K H8 tu lw sv lm ks (mpP (ixP qs) out) ms/\dW ks=dW J.2/\dM ms=dQ mk qs))->
  G3.ES (TF K) O7 { nx:=λ_ H'=>Q .non H',rt:=Q } [some (.ref a),some (.ref l1),some (.ref acc),some (.ref on),some (.ref ot),some (.ref hl),some (.bl rf),some fv,none,none] H8:=λrf fv H8 x8 hc=>by
  have kp:=KeepS.tb (K:=K) bc x8;have bu:SqL K H8 hl [.ref h0,.ref h1]:=kp.l _ _ (SqL.of e7);refine⟨on,ot,J.1,L.1,as,av,ae,af,J.2,L.2,t1,t2,ms1,ms2,ms2.length,3,out,mk,OkP os1 os2,qs,rfl,d0.keep kp,d1.keep kp,P2.tuOk F1 F2,D,ac,λp du lm sv ms gr H9 g9 hp bv bw bd=>.u _ hp ⟨λle cc be bx ce=>?_⟩⟩;have Z:=g9.trans be;obtain⟨y1,y2⟩:=P1.lay F0 F1;obtain⟨y3,y4⟩:=P2.lay F1 F2;have r0:=J0 ((c0.keep kp).same Z);have r1:=J0 ((c1.keep kp).same Z);rw [am,ax]at r0;rw [ag,ay]at r1;have aj:PyData.canLay0 (.list [tuD (dW J.2) t1 (dM ms1),tuD (dW L.2) t2 (dM ms2)])=true:=by simp only [PyData.canLay0,PyData.canLayAll0,y1,y3,Bool.and_self]
  refine .e (.list [tuD (dW J.2) t1 (dM ms1),tuD (dW L.2) t2 (dM ms2)]) (.list [tuD (dW J.2) t1 (dM ms1),tuD (dW L.2) t2 (dM ms2)]) (.lst (Z.seq bu) (.cons r0 (.cons r1 .nil))) (.lst (SqL.of bx) (.cons (J0 ((d0.keep kp).same Z)) (.cons (J0 ((d1.keep kp).same Z)) .nil))) aj aj (Nat.le_trans (Nat.min_le_right _ _) (by simp only [PyData.depth,PyData.depthAll];lia)) ?_;rw [Yb _ aj];have bz:rf=gr:=by
   rcases hc with⟨z1,z2⟩ | ⟨z1,z2,_⟩
   .rw [z1,bd.mpr z2]
   .rw [z1];cases gr with
    | false=>rfl
    | true=>exact absurd z2 (bd.mp rfl)
  subst bz;refine .e (.bool rf) (.bool rf) (.bl _) (.bl _) rfl rfl (Nat.le_trans (Nat.min_le_right _ _) (by cases rf<;>decide)) ?_;rw [Yb (.bool rf) rfl];rcases hc with⟨rfl,_⟩ | ⟨rfl,⟨zs,zf⟩,tu,lw,b0,a0,aq,ai,rfl,b1,bf,a5⟩
  .exact q _
  have hD:dM ai=dM ms:=by rw [a5,bw]
  have lay:=Ni (ws:=dW aq) (t:=mpP (ixP qs) out) (D:=dM ai) (d:=18) (by rw [bf];exact Ua F0.nm F0.ok.rows) (mo _) λm Y=>by
   rw [a5]at Y;obtain⟨p,hp,rfl⟩:=List.mem_map.mp Y;obtain⟨a1,a2⟩:=mm p (az p hp);refine⟨a1,λt ht=>?_⟩;obtain⟨o,ho,rfl⟩:=List.mem_map.mp ht;exact a2 o ho _
  refine⟨tu,du,lw,J.1,b0,lm,a0,sv,aq,J.2,mpP (ixP qs) out,ai,ms,rfl,b1.same Z,bv.same be,bf,hD,lay.1,Nat.le_trans lay.2 (18:),Nat.le_trans (Vo _ _) D.lo,λm Y r hr=>?_,λH' _=>q H'⟩;have:(m.2.1,m.2.2.2.2)∈dQ mk qs:=by rw [<-a5];exact List.mem_map.mpr ⟨m,Y,rfl⟩
  obtain⟨p,hp,e⟩:=List.mem_map.mp this;have e2:(mk p).2.map (mpP (ixP qs))=m.2.2.2.2:=(Prod.mk.inj e).2;rw [<-e2]at hr;obtain⟨o,ho,rfl⟩:=List.mem_map.mp hr;exact Nat.le_trans (Vo _ _) (D.lm p (az p hp) o ho)
 obtain⟨b3,b4⟩: ∃k,ka[0]?=some k:=⟨_,List.getElem?_eq_getElem bb.ne⟩;obtain⟨b7,bg⟩: ∃k,kb[0]?=some k:=⟨_,List.getElem?_eq_getElem ah.ne⟩;refine⟨h0,h1,hl,rfl,SqL.of e7,h0,h1,a7,a9,a8,ba,ae,af,ka,kb,b3,b7,t1,t2,ma,mb,ma.length,mb.length,3,rfl,.inl bc,c0,ap.tuOk bb ah,b4,c1,bt.tuOk ah F2,ah.wg,bg,?_,by decide,λds hD a6=>absurd (ap.fine bg hD) a6,λds hD cb=>⟨out,mkF mk,OkP os1 os2,D'.bh,λhf cf hr tu lw lm a0 aq ai H8 x8 b8 b9 nw dw ca nm dm _ _ _=>?_,λa6 H8 x8 b8=>⟨rfl,rfl,rest true .non H8 x8 (.inl ⟨rfl,?_⟩)⟩⟩⟩
 .have a1:=ap.ml;have a2:=ap.l3;have a3:=ah.l3;have:ma.length*kb.length<=3*3:=Nat.mul_le_mul (6:) a3;lia
 .have ak:∀p∈qs,Y9 (mk p).2:=λp hp=>by
   by_cases z:Y9 (mk p).2
   .exact z
   .obtain⟨i,hi,rfl⟩:=List.getElem_of_mem hp;rw [D.stop aa ab ac i _ (Nat.zero_le _) (List.getElem?_eq_getElem hi) z]at hr;cases hr
  rw [D.same aa ab ac ak]at hr;cases hr;refine rest false (.ref tu) H8 x8 (.inr ⟨rfl,⟨hf.1,ak⟩,tu,lw,lm,a0,aq,ai,rfl,⟨b9,nw.wood,ca,SqL.of nm.at0,λm Y=>⟨(nm.mo m Y).1,SqL.of (nm.mo m Y).2.1,(nm.mo m Y).2.2.2.2⟩⟩,by rw [dw,am],by rw [dm,T5 D az ak]⟩)
 .rintro⟨z1,z2⟩;rcases a6 with z | z
  .exact z ⟨z1,D.lo⟩
  .rw [D.same aa ab ac z2]at z;cases z
end
end K65
namespace K65
open PySem L2
theorem all_mk{c1 T1:Addr}{l:PySem.W.OpenLaw}{w:World}{K:Fg}{h:Heap}{mg:Str->Option Value}{fa:Addr}(X:K.In h)(N:h.Ns mainGlobals mg)(hfa:mg "law"=some (.ref fa))
 (d1:DefAt K "is_call" Rr) (d2:DefAt K "calls_of" sCO) (d3:DefAt K "with_modes" Jv) (d4:DefAt K "with_parts" Vf) (d5:DefAt K "own_wood" PD) (d6:DefAt K "rows_of" XO) (d7:DefAt K "as_met" XN) (d8:DefAt K "number_calls" Gc) (d9:DefAt K "numbered_mode" LO) (d10:DefAt K "row_above" Vz) (d11:DefAt K "strays_at_all" PH) (d12:DefAt K "levels_needed" Sa) (d13:DefAt K "rule_of" Xl) (d14:DefAt K "behind" Yf) (d15:DefAt K "mode_behind" Xv) (d16:DefAt K "_law_cell_at" Nb) (d17:DefAt K "_law_mixed" Vm) (d18:DefAt K "_law_names" Vt) (d19:DefAt K "_law_great" VE) (d20:DefAt K "_law_wood" MW) (d21:DefAt K "_law_typed" Ja) (d22:DefAt K "_law_calls" Vn) (d23:DefAt K "_law_passing" Jq) (d24:DefAt K "_law_rule" NF) (d25:DefAt K "_law_whole" WZ) (d26:DefAt K "_law_is_term" Mx) (d27:DefAt K "_law_same" VZ) (d28:DefAt K "_law_copy" NG) (d29:DefAt K "_law_on" sOn) (d30:DefAt K "_law_count" UY) (d31:DefAt K "_law_numbered" ZE) (d32:DefAt K "_law_due" R8) (d33:DefAt K "law" JG)
 (z1:PySem.W.nsIn K mainGlobals "len"=some none) (z2:PySem.W.nsIn K mainGlobals "isinstance"=some none) (z3:PySem.W.nsIn K mainGlobals "int"=some none) (z4:PySem.W.nsIn K mainGlobals "bool"=some none) (z5:PySem.W.nsIn K mainGlobals "str"=some none) (z6:PySem.W.nsIn K mainGlobals "tuple"=some none) (z7:PySem.W.nsIn K mainGlobals "list"=some none) (z8:PySem.W.nsIn K mainGlobals "range"=some none) (z9:PySem.W.nsIn K mainGlobals "zip"=some none) (z10:PySem.W.nsIn K mainGlobals "dict"=some none) (z11:PySem.W.nsIn K mainGlobals "sorted"=some none) (z12:PySem.W.nsIn K mainGlobals "reversed"=some none) (z13:PySem.W.nsIn K mainGlobals "enumerate"=some none)   (ht1:PySem.W.tabIn K "behind"=some (c1,T1)) (hh1:PySem.W.codeHdIn K c1 T1=true)  {tA tB tC:Tok} {NT NS:Addr} (gA:PySem.W.nsIn K mainGlobals "MOST_SIZE"=some (some (.int 200 tA))) (gB:PySem.W.nsIn K mainGlobals "MOST_LEVELS"=some (some (.int 30 tB))) (gC:PySem.W.nsIn K mainGlobals "MOST_MODES"=some (some (.int 40 tC))) (gN:PySem.W.nsIn K mainGlobals "TooGreat"=some (some (.ref NT))) (gS:PySem.W.nsIn K mainGlobals "Strays"=some (some (.ref NS))) (qa:PySem.W.excIn K NT NB "ValueError.__new__"=true) (qb:PySem.W.excIn K NS NB "ValueError.__new__"=true) (kN:PySem.W.ktsIn K NT "BaseException"=true) (s1:DmK K) (s2:TbK K):
 ∃fd:FuncData,(∀(s:Shared)(v:Value),BindsTo s fd ⟨[v],[]⟩ [("_law_script",v)])/\∀base:Heap,K.In base->base.Ns mainGlobals mg->XZ mg base->FnOk l.prog w K mg base CX0 69 fa fd ["_law_script"] (VV K T1):=by
 have G:Gm mg:=⟨PySem.W.mg_none_of X N z1,PySem.W.mg_none_of X N z2,PySem.W.mg_none_of X N z3,PySem.W.mg_none_of X N z4,PySem.W.mg_none_of X N z5,PySem.W.mg_none_of X N z6,PySem.W.mg_none_of X N z7,PySem.W.mg_none_of X N z8,PySem.W.mg_none_of X N z9,PySem.W.mg_none_of X N z10,PySem.W.mg_none_of X N z11,PySem.W.mg_none_of X N z12,PySem.W.mg_none_of X N z13⟩;obtain⟨f,oc,od,kV,aa,pm,an,ab,ct,ac,a,Z,c,kp⟩:=d33.ex;have e:=hfa.symm.trans (PySem.W.mg_of X N a);cases e;have F:=QD (st:=JG) Z c kp;refine⟨PySem.W.fnOf "law" "law" (defArgs JG) (defBody JG) (defScope JG) .none kV aa pm an ab ct,λs v=>.of_eq rfl,λbase _ _ hB=>?_⟩;have ak:mg "MOST_SIZE"=some (.int 200 tA):=PySem.W.mg_of X N gA;have ae:mg "MOST_LEVELS"=some (.int 30 tB):=PySem.W.mg_of X N gB;have al:mg "MOST_MODES"=some (.int 40 tC):=PySem.W.mg_of X N gC;have af:Rs K mg "TooGreat" NT:=⟨PySem.W.mg_of X N gN,qa⟩;have am:Rs K mg "Strays" NS:=⟨PySem.W.mg_of X N gS,qb⟩;have ad:∀g:Heap,Fn l.prog w K mg g 1 "is_call" ["term"] (ZF K):=λg=>d1.fn X N (λf fd F=>P4 F) (λ_ _ _ _ _ _ L J=>by obtain⟨U,rfl⟩:=ln1 J;rfl);have ag:∀g:Heap,Fn l.prog w K mg g 1 "rows_of" ["wood","kind"] (Z5 K):=λg=>d6.fn X N (λf fd F=>GQ F G) (λ_ _ _ _ _ _ L J=>by obtain⟨U,a2,rfl⟩:=ln2 J;rfl);have ao:∀g:Heap,Fn l.prog w K mg g 2 "rule_of" ["turning","mode","name"] (QV K):=λg=>d13.fn X N (λf fd F=>GX F G (ag g)) (λ_ _ _ _ _ _ L J=>by obtain⟨U,a2,a3,rfl⟩:=ln3 J;rfl);have ap:∀g:Heap,Fn l.prog w K mg g 31 "calls_of" ["term"] (VM K 30):=λg=>by
  obtain⟨f,oc,od,kV,aa,pm,an,ab,ct,ac,a,Z,c,kp⟩:=d2.ex;have F:=QD (st:=sCO) Z c kp;have Y:Binds K _ ["term"] []:=F.binds (λ_ _ _ _ _ _ L J=>by obtain⟨U,rfl⟩:=ln1 J;rfl);exact⟨f,_,Nt F G (ad g) Y (PySem.W.mg_of X N a) 30,Y,kp,PySem.W.mg_of X N a⟩
 have aq:∀g:Heap,Fn l.prog w K mg g 1 "with_parts" ["term","parts"] (NN K):=λg=>d4.fn X N (λf fd F=>Tq F G) (λ_ _ _ _ _ _ L J=>by obtain⟨U,a2,rfl⟩:=ln2 J;rfl);have ah:∀g:Heap,Fn l.prog w K mg g 31 "with_modes" ["term","numbers"] (JE K 30):=λg=>by
  obtain⟨f,oc,od,kV,aa,pm,an,ab,ct,ac,a,Z,c,kp⟩:=d3.ex;have F:=QD (st:=Jv) Z c kp;have Y:Binds K _ ["term","numbers"] []:=F.binds (λ_ _ _ _ _ _ L J=>by obtain⟨U,a2,rfl⟩:=ln2 J;rfl);exact⟨f,_,M4 F G (ad g) (aq g) Y (PySem.W.mg_of X N a) 30,Y,kp,PySem.W.mg_of X N a⟩
 have ar:∀g:Heap,Fn l.prog w K mg g 1 "own_wood" ["wood"] (Vp K):=λg=>d5.fn X N (λf fd F=>NZ F G) (λ_ _ _ _ _ _ L J=>by obtain⟨U,rfl⟩:=ln1 J;rfl);have as:∀g:Heap,FnX l.prog w K mg g 32 "number_calls" ["numbers","term","most"] (R1 K NT 30):=λg=>by
  obtain⟨f,oc,od,kV,aa,pm,an,ab,ct,ac,a,Z,c,kp⟩:=d8.ex;have F:=QD (st:=Gc) Z c kp;have Y:Binds K _ ["numbers","term","most"] []:=F.binds (λ_ _ _ _ _ _ L J=>by obtain⟨U,a2,a3,rfl⟩:=ln3 J;rfl);exact⟨⟨f,_,Tf F G af (ap g),Y,kp,PySem.W.mg_of X N a⟩⟩
 have au:∀g:Heap,Fn l.prog w K mg g 32 "numbered_mode" ["mode","numbers"] (Oa K 30):=λg=>d9.fn X N (λf fd F=>SD F (ah g)) (λ_ _ _ _ _ _ L J=>by obtain⟨U,a2,rfl⟩:=ln2 J;rfl);have av:∀g:Heap,Fn l.prog w K mg g 1 "row_above" ["wood"] (UN K):=λg=>d10.fn X N (λf fd F=>Mb F) (λ_ _ _ _ _ _ L J=>by obtain⟨U,rfl⟩:=ln1 J;rfl);have aw:∀g:Heap,Fn l.prog w K mg g 1 "levels_needed" ["fault"] (Gv K):=λg=>d12.fn X N (λf fd F=>PU F G) (λ_ _ _ _ _ _ L J=>by obtain⟨U,rfl⟩:=ln1 J;rfl);obtain⟨CD,MD⟩:=s1.m (P:=l.prog) (w:=w) (base:=base) X N G (ad base) (aw base) (av base) (ag base) 3;obtain⟨CB,MB⟩: ∃C,∀g:Heap,TbM l.prog w K mg g C NT 15:=s2.m (P:=l.prog) (w:=w) X N G ad ao af ae ak 15;have ax:∀g:Heap,FnX l.prog w K mg g 18 "mode_behind" ["one","other","pair"] (XV K NT 15):=λg=>by
  obtain⟨f,oc,od,kV,aa,pm,an,ab,ct,ac,a,Z,c,kp⟩:=d15.ex;have F:=QD (st:=Xv) Z c kp;have Y:Binds K _ ["one","other","pair"] []:=F.binds (λ_ _ _ _ _ _ L J=>by obtain⟨U,a2,a3,rfl⟩:=ln3 J;rfl);exact⟨⟨f,_,LR F (MB g) ae,Y,kp,PySem.W.mg_of X N a⟩⟩
 obtain⟨fA,ba,bb,bc,a0,bd,be,a8,bf,a9,aA,ay,cA,ai⟩:=d7.ex;have aj:=QD (st:=XN) ay cA ai;have az:=PySem.W.mg_of X N aA;have bA:Binds K _ ["wood","start","mode_by","most"] []:=aj.binds (λ_ _ _ _ _ _ L J=>by obtain⟨U,a2,a3,a4,rfl⟩:=ln4 J;rfl);have FA:=λg:Heap=>Tr (P:=l.prog) (w:=w) (mg:=mg) (base:=g) (k:=19) (n:=30) aj G (as g) (ar g) (ah g) (au g);have b1:Fn l.prog w K mg base 9 "strays_at_all" ["turning","wood"] (MP K 3):=d11.fn X N (λf fd F=>RQ F MD) λ_ _ _ _ _ _ L J=>by obtain⟨U,a2,rfl⟩:=ln2 J;rfl
 have b2:FnX l.prog w K mg base 68 "behind" ["one","other"] (Z2 K T1 NT NS 3 15):=by
  obtain⟨f,oc,od,kV,aa,pm,an,ab,ct,ac,a,Z,c,kp⟩:=d14.ex;have F:=QD (st:=Yf) Z c kp;have Y:Binds K _ ["one","other"] []:=F.binds λ_ _ _ _ _ _ L J=>by obtain⟨U,a2,rfl⟩:=ln2 J;rfl
  exact⟨⟨f,_,Lg F a ht1 hh1 hB b1 (MB base) ae al FA az ai bA am ax,Y,kp,PySem.W.mg_of X N a⟩⟩
 have l1:Fn l.prog w K mg base 1 "_law_cell_at" ["_law_script","_law_k"] (Uj K):=d16.fn X N (λf fd F=>Of F G) λ_ _ _ _ _ _ L J=>by obtain⟨U,a2,rfl⟩:=ln2 J;rfl
 have l2:Fn l.prog w K mg base 1 "_law_mixed" ["_law_cell","_law_k"] Zc:=d17.fn X N (λf fd F=>NA F) λ_ _ _ _ _ _ L J=>by obtain⟨U,a2,rfl⟩:=ln2 J;rfl
 have l3:Fn l.prog w K mg base 2 "_law_names" ["_law_cell"] (UK K):=d18.fn X N (λf fd F=>Lw F G l2) λ_ _ _ _ _ _ L J=>by obtain⟨U,rfl⟩:=ln1 J;rfl
 have l4:Fn l.prog w K mg base 1 "_law_whole" ["_law_found"] UH:=d25.fn X N (λf fd F=>LZ F G) λ_ _ _ _ _ _ L J=>by obtain⟨U,rfl⟩:=ln1 J;rfl
 have l5:Fn l.prog w K mg base 31 "_law_is_term" ["_law_found"] (U3 K 30):=by
  obtain⟨f,oc,od,kV,aa,pm,an,ab,ct,ac,a,Z,c,kp⟩:=d26.ex;have F:=QD (st:=Mx) Z c kp;have Y:Binds K _ ["_law_found"] []:=F.binds λ_ _ _ _ _ _ L J=>by obtain⟨U,rfl⟩:=ln1 J;rfl
  exact⟨f,_,V0 F G l4 Y (PySem.W.mg_of X N a) 30,Y,kp,PySem.W.mg_of X N a⟩
 have l6:Fn l.prog w K mg base 32 "_law_same" ["_law_found","_law_due_here"] (Xn K 30):=d27.fn X N (λf fd F=>Oq F G l5) λ_ _ _ _ _ _ L J=>by obtain⟨U,a2,rfl⟩:=ln2 J;rfl
 have l8:Fn l.prog w K mg base 1 "_law_great" ["_law_cell"] YT:=d19.fn X N (λf fd F=>M9 F) λ_ _ _ _ _ _ L J=>by obtain⟨U,rfl⟩:=ln1 J;rfl
 have l9:Fn l.prog w K mg base 1 "_law_rule" ["_law_turning","_law_mode","_law_name"] (QV K):=d24.fn X N (λf fd F=>Mq F G) λ_ _ _ _ _ _ L J=>by obtain⟨U,a2,a3,rfl⟩:=ln3 J;rfl
 have lW:Fn l.prog w K mg base 2 "_law_wood" ["_law_cell","_law_names_here"] (XC K):=d20.fn X N (λf fd F=>N5 F G l2) λ_ _ _ _ _ _ L J=>by obtain⟨U,a2,rfl⟩:=ln2 J;rfl
 have lC:Fn l.prog w K mg base 1 "_law_calls" ["_law_branches","_law_owners"] (UM K):=d22.fn X N (λf fd F=>Mn F G) λ_ _ _ _ _ _ L J=>by obtain⟨U,a2,rfl⟩:=ln2 J;rfl
 have lT:Fn l.prog w K mg base 4 "_law_typed" ["_law_cell","_law_k","_law_deep","_law_kind","_law_wood_here","_law_calls_here","_law_keep"] (ZQ K 3):=by
  obtain⟨f,oc,od,kV,aa,pm,an,ab,ct,ac,a,Z,c,kp⟩:=d21.ex;have F:=QD (st:=Ja) Z c kp;have Y:Binds K _ ["_law_cell","_law_k","_law_deep","_law_kind","_law_wood_here","_law_calls_here","_law_keep"] []:=F.binds λ_ _ _ _ _ _ L J=>by obtain⟨U,a2,a3,a4,a5,a6,a7,rfl⟩:=ln7 J;rfl
  exact⟨f,_,J9 F G l2 l8 Y (PySem.W.mg_of X N a) 3,Y,kp,PySem.W.mg_of X N a⟩
 have lP:Fn l.prog w K mg base 5 "_law_passing" ["_law_script","_law_used","_law_deep","_law_wood_here","_law_out"] (Yj K):=d23.fn X N (λf fd F=>Vr F G l1 l2 lC lT) λ_ _ _ _ _ _ L J=>by obtain⟨U,a2,a3,a4,a5,rfl⟩:=ln5 J;rfl
 have lY:Fn l.prog w K mg base 1 "_law_copy" ["_law_turning"] (Xw K):=d28.fn X N (λf fd F=>NQ F G) λ_ _ _ _ _ _ L J=>by obtain⟨U,rfl⟩:=ln1 J;rfl
 have lO:Fn l.prog w K mg base 18 "_law_on" ["_law_other","_law_rule_here","_law_term"] (Vc K 16):=by
  obtain⟨f,oc,od,kV,aa,pm,an,ab,ct,ac,a,Z,c,kp⟩:=d29.ex;have F:=QD (st:=sOn) Z c kp;have Y:Binds K _ ["_law_other","_law_rule_here","_law_term"] []:=F.binds λ_ _ _ _ _ _ L J=>by obtain⟨U,a2,a3,rfl⟩:=ln3 J;rfl
  exact⟨f,_,Ng F G l9 Y (PySem.W.mg_of X N a) 16,Y,kp,PySem.W.mg_of X N a⟩
 have lN:Fn l.prog w K mg base 31 "_law_count" ["_law_term"] (ZU K 30):=by
  obtain⟨f,oc,od,kV,aa,pm,an,ab,ct,ac,a,Z,c,kp⟩:=d30.ex;have F:=QD (st:=UY) Z c kp;have Y:Binds K _ ["_law_term"] []:=F.binds λ_ _ _ _ _ _ L J=>by obtain⟨U,rfl⟩:=ln1 J;rfl
  exact⟨f,_,JX F G Y (PySem.W.mg_of X N a) 30,Y,kp,PySem.W.mg_of X N a⟩
 have lM:Fn l.prog w K mg base 31 "_law_numbered" ["_law_term","_law_pairs"] (QZ K 30):=by
  obtain⟨f,oc,od,kV,aa,pm,an,ab,ct,ac,a,Z,c,kp⟩:=d31.ex;have F:=QD (st:=ZE) Z c kp;have Y:Binds K _ ["_law_term","_law_pairs"] []:=F.binds λ_ _ _ _ _ _ L J=>by obtain⟨U,a2,rfl⟩:=ln2 J;rfl
  exact⟨f,_,YW F G Y (PySem.W.mg_of X N a) 30,Y,kp,PySem.W.mg_of X N a⟩
 have lD:Fn l.prog w K mg base 50 "_law_due" ["_law_one","_law_other"] (Ge K 15):=d32.fn X N (λf fd F=>P9 F G lO lN lM) λ_ _ _ _ _ _ L J=>by obtain⟨U,a2,rfl⟩:=ln2 J;rfl
 exact Ru F G af.hm kN l1 l3 lW lP lY b2 lD l6
theorem walk{c1 T1:Addr}{l:PySem.W.OpenLaw}{q:Program}{loose:List Str}{XP:(Str->Option Value)->Heap->Prop}{YP:World->Heap->Prop}{d:DefRec}{K:Params->Fg}(hn:l.most=some 63)(hdf:d.params.defaults=[])
 (hY:∀(w:World)(h:Heap),YP w h->(K w.params).In h) (tb1:∀w:World,TabAt q (K w.params) "behind" c1 T1)
 (F:∀(w:World)(mg:Str->Option Value)(fa:Addr)(h:Heap),(K w.params).In h->h.Ns mainGlobals mg->mg d.name=some (.ref fa)->
  ∃fd:FuncData,(∀(s:Shared)(u:Value),BindsTo s fd ⟨[u],[]⟩ [("_law_script",u)])/\∀base:Heap,(K w.params).In base->base.Ns mainGlobals mg->XZ mg base->FnOk l.prog w (K w.params) mg base CX0 69 fa fd ["_law_script"] (VV (K w.params) T1)):
 PySem.W.WalkO q loose XP YP l.row.toRowW d [] (λf vs=>PySem.call f vs):=
 L2.walk_ofT (n:=63) (k:=69) (x:="_law_script") (tabs:=[("behind",c1,T1)]) (sp:=λw=>VV (K w.params) T1) hn (18:) hdf ⟨rfl,by decide,by decide⟩ hY (λw p hp=>by
  simp only [List.mem_cons,List.not_mem_nil,or_false]at hp;rcases hp with rfl
  .exact tb1 w) F (λ_ _ a G J L U=>⟨a,G,rfl,L,J,U ("behind",c1,T1) (21:),λ_=>rfl⟩)
end K65
section
open PySem
def K65.vS(x:String)(n:Nat):Value:=.str (Str.ofString x) n
def K65.mN:Value:=.str (Str.ofString "law_turnery_k65_pairs_of_modes") 521
def K65.vR(a:Nat):Value:=.ref a
def K65.vI(i:Int)(n:Nat):Value:=.int i n
def K65.hE(P:Params)(x:String)(n:Nat)(v:Value):DictEntry:=⟨PyData.keyHash P (Str.ofString x),.str (Str.ofString x) n,v⟩
def K65.vN:Value:=.none
def K65.vF:Value:=.type "function"
def K65.vT:Value:=.bool true
def K65.i0:Value:=.int 0 0
def K65.i3:Value:=.int 3 0
def K65.i1:Value:=.int 181 0
def K65.cP(k:Nat):Value:=.str (Str.ofString "/claim/cut.py") k
def K65.oT(x:Array Value):Obj:=Obj.mk (Value.type "tuple") none (Data.seq x) #[]
def K65.oC(x:Array Value):Obj:=Obj.mk (Value.type "code") none (Data.fields x) #[]
def K65.oF(c:Value)(x y:String)(s:Stmt)(k:Nat)(pm cd:Value):Obj:=Obj.mk c none (Data.func (FuncData.mk (Str.ofString x) (Str.ofString y) (L2.defArgs s) (.stmts (L2.defBody s)) (L2.defScope s) k [] Value.none Value.none Value.none pm none cd Value.none 0)) #[]
open K65
def K65.oE:Obj:={ cls:=vN,data:=Data.fields #[] }
def K65.x3(P:Params):Obj:=Obj.mk (Value.type "dict") none (Data.dict #[hE P "__name__" 165 mN,hE P "__doc__" 166 vN,hE P "__package__" 167 vN,hE P "__loader__" 168 (81:),hE P "__spec__" 169 vN,hE P "__annotations__" 170 (vR 6),hE P "__builtins__" 171 (vR 4),hE P "__file__" 173 (cP 172),hE P "__cached__" 174 vN,hE P "_wall" 193 (vR 21),hE P "TurnError" 213 (vR 31),hE P "TooGreat" 229 (vR 44),hE P "Strays" 245 (vR 56),hE P "is_call" 254 (vR 65),hE P "calls_of" 263 (vR 72),hE P "with_modes" 269 (vR 77),hE P "with_parts" 277 (vR 84),hE P "own_wood" 285 (vR 89),hE P "rows_of" 293 (vR 96),hE P "as_met" 301 (vR 101),hE P "number_calls" 312 (vR 108),hE P "numbered_mode" 318 (vR 113),hE P "row_above" 327 (vR 120),hE P "strays_at_all" 337 (vR 127),hE P "levels_needed" 345 (vR 134),hE P "Demands" 426 (vR 184),hE P "rule_of" 441 (vR 195),hE P "MOST_MODES" 445 (vI 40 444),hE P "MOST_SIZE" 447 (vI 200 446),hE P "MOST_LEVELS" 449 (vI 30 448),hE P "behind" 460 (vR 202),hE P "mode_behind" 466 (vR 207),hE P "TermBehind" 520 (vR 243),hE P "_law_cell_at" 530 (vR 254),hE P "_law_mixed" 539 (vR 261),hE P "_law_names" 545 (vR 266),hE P "_law_great" 552 (vR 273),hE P "_law_wood" 558 (vR 278),hE P "_law_typed" 564 (vR 283),hE P "_law_calls" 575 (vR 290),hE P "_law_passing" 597 (vR 297),hE P "_law_rule" 610 (vR 304),hE P "_law_whole" 617 (vR 311),hE P "_law_is_term" 625 (vR 318),hE P "_law_same" 636 (vR 325),hE P "_law_copy" 642 (vR 330),hE P "_law_on" 648 (vR 335),hE P "_law_count" 657 (vR 342),hE P "_law_numbered" 663 (vR 347),hE P "_law_due" 683 (vR 354),hE P "law" 689 (vR 359)] 51) #[]
def K65.x20(P:Params):Obj:=oC #[vS "_wall" 187,vS "_wall" 188,cP 189,vI 1 0,vI 1 0,i0,i0,i3,vR 15,vT,i1,vR 16,vN,vR 17,vR 18,vR 19,vI 191 0,vI 1 0,cP 192]
def K65.x21(P:Params):Obj:=oF vF "_wall" "_wall" (top 0) 3 (vS "__main__" 164) (vR 20)
def K65.x30(P:Params):Obj:=Obj.mk (Value.type "dict") none (Data.dict #[hE P "__module__" 203 (77:),hE P "__firstlineno__" 207 (vI 5 206),hE P "__static_attributes__" 208 (vR 29),hE P "__weakref__" 210 (vR 32),hE P "__doc__" 211 vN] 3) #[]
def K65.x31(P:Params):Obj:=Obj.mk (Value.type "type") none (Data.cls (ClassData.mk (Str.ofString "TurnError") [Value.type "ValueError"] [vR 31,Value.type "ValueError",Value.type "Exception",Value.type "BaseException",Value.type "object"] 30 (Str.ofString "TurnError") true [] [vR 44,vR 56] false none false)) #[some (vR 22),none,some (vS "TurnError" 196),some (vS "TurnError" 204),some (Value.builtin "ValueError.__new__"),some (Value.bool true)]
def K65.x32(P:Params):Obj:=Obj.mk (Value.type "getset_descriptor") none (Data.fields #[vS "__weakref__" 209,vR 31,Value.builtin "ExceptionGroup.__weakref__",vN]) #[]
def K65.x43(P:Params):Obj:=Obj.mk (Value.type "dict") none (Data.dict #[hE P "__module__" 221 (77:),hE P "__firstlineno__" 225 (vI 7 224),hE P "__static_attributes__" 226 (vR 42),hE P "__doc__" 227 vN] 2) #[]
def K65.x44(P:Params):Obj:=Obj.mk (Value.type "type") none (Data.cls (ClassData.mk (Str.ofString "TooGreat") [vR 31] [vR 44,vR 31,Value.type "ValueError",Value.type "Exception",Value.type "BaseException",Value.type "object"] 43 (Str.ofString "TooGreat") true [] [] false none false)) #[some (vR 35),none,some (vS "TooGreat" 214),some (vS "TooGreat" 222),some (Value.builtin "ValueError.__new__"),some (Value.bool true)]
def K65.x55(P:Params):Obj:=Obj.mk (Value.type "dict") none (Data.dict #[hE P "__module__" 237 (77:),hE P "__firstlineno__" 241 (vI 9 240),hE P "__static_attributes__" 242 (vR 54),hE P "__doc__" 243 vN] 2) #[]
def K65.x56(P:Params):Obj:=Obj.mk (Value.type "type") none (Data.cls (ClassData.mk (Str.ofString "Strays") [vR 31] [vR 56,vR 31,Value.type "ValueError",Value.type "Exception",Value.type "BaseException",Value.type "object"] 55 (Str.ofString "Strays") true [] [] false none false)) #[some (vR 47),none,some (vS "Strays" 230),some (vS "Strays" 238),some (Value.builtin "ValueError.__new__"),some (Value.bool true)]
def K65.x64(P:Params):Obj:=oC #[vS "is_call" 248,vS "is_call" 249,cP 250,vI 12 0,vI 1 0,i0,i0,i3,vR 59,vT,i1,vR 60,vN,vR 61,vR 62,vR 63,vI 252 0,vI 12 0,cP 253]
def K65.x65(P:Params):Obj:=oF vF "is_call" "is_call" (top 6) 3 (vS "turnery.terms" 246) (vR 64)
def K65.x68(P:Params):Obj:=oT #[vS "term" 258,vS "told" 259,vS "part" 260]
def K65.x71(P:Params):Obj:=oC #[vS "calls_of" 255,vS "calls_of" 256,cP 257,vI 14 0,vI 1 0,i0,i0,i3,vR 66,vT,i1,vR 67,vN,vR 68,vR 69,vR 70,vI 261 0,vI 14 0,cP 262]
def K65.x72(P:Params):Obj:=oF vF "calls_of" "calls_of" (top 7) 3 (vS "turnery.terms" 246) (vR 71)
def K65.x76(P:Params):Obj:=oC #[vS "with_modes" 264,vS "with_modes" 265,cP 266,vI 21 0,vI 2 0,i0,i0,i3,vR 73,vT,i1,vR 74,vN,vN,vN,vR 75,vI 267 0,vI 21 0,cP 268]
def K65.x77(P:Params):Obj:=oF vF "with_modes" "with_modes" (top 8) 3 (vS "turnery.terms" 246) (vR 76)
def K65.x83(P:Params):Obj:=oC #[vS "with_parts" 270,vS "with_parts" 271,cP 272,vI 25 0,vI 2 0,i0,i0,i3,vR 78,vT,i1,vR 79,vN,vR 80,vR 81,vR 82,vI 275 0,vI 25 0,cP 276]
def K65.x84(P:Params):Obj:=oF vF "with_parts" "with_parts" (top 9) 3 (vS "turnery.terms" 246) (vR 83)
def K65.x88(P:Params):Obj:=oC #[vS "own_wood" 280,vS "own_wood" 281,cP 282,vI 28 0,vI 1 0,i0,i0,i3,vR 85,vT,i1,vR 86,vN,vN,vN,vR 87,vI 283 0,vI 28 0,cP 284]
def K65.x89(P:Params):Obj:=oF vF "own_wood" "own_wood" (top 11) 3 (vS "turnery.woods" 278) (vR 88)
def K65.x95(P:Params):Obj:=oC #[vS "rows_of" 286,vS "rows_of" 287,cP 288,vI 30 0,vI 2 0,i0,i0,i3,vR 90,vT,i1,vR 91,vN,vR 92,vR 93,vR 94,vI 291 0,vI 30 0,cP 292]
def K65.x96(P:Params):Obj:=oF vF "rows_of" "rows_of" (top 12) 3 (vS "turnery.woods" 278) (vR 95)
def K65.x100(P:Params):Obj:=oC #[vS "as_met" 296,vS "as_met" 297,cP 298,vI 33 0,vI 4 0,i0,i0,i3,vR 97,vT,i1,vR 98,vN,vN,vN,vR 99,vI 299 0,vI 33 0,cP 300]
def K65.x101(P:Params):Obj:=oF vF "as_met" "as_met" (top 14) 3 (vS "turnery.numbering" 294) (vR 100)
def K65.x104(P:Params):Obj:=oT #[vS "numbers" 305,vS "term" 306,vS "most" 307,vS "mode" 308,vS "branch" 309]
def K65.x107(P:Params):Obj:=oC #[vS "number_calls" 302,vS "number_calls" 303,cP 304,vI 44 0,vI 3 0,i0,i0,i3,vR 102,vT,i1,vR 103,vN,vR 104,vR 105,vR 106,vI 310 0,vI 44 0,cP 311]
def K65.x108(P:Params):Obj:=oF vF "number_calls" "number_calls" (top 15) 3 (vS "turnery.numbering" 294) (vR 107)
def K65.x112(P:Params):Obj:=oC #[vS "numbered_mode" 313,vS "numbered_mode" 314,cP 315,vI 50 0,vI 2 0,i0,i0,i3,vR 109,vT,i1,vR 110,vN,vN,vN,vR 111,vI 316 0,vI 50 0,cP 317]
def K65.x113(P:Params):Obj:=oF vF "numbered_mode" "numbered_mode" (top 16) 3 (vS "turnery.numbering" 294) (vR 112)
def K65.x119(P:Params):Obj:=oC #[vS "row_above" 321,vS "row_above" 322,cP 323,vI 53 0,vI 1 0,i0,i0,i3,vR 114,vT,i1,vR 115,vN,vR 116,vR 117,vR 118,vI 325 0,vI 53 0,cP 326]
def K65.x120(P:Params):Obj:=oF vF "row_above" "row_above" (top 18) 3 (vS "turnery.ways" 319) (vR 119)
def K65.x126(P:Params):Obj:=oC #[vS "strays_at_all" 330,vS "strays_at_all" 331,cP 332,vI 56 0,vI 2 0,i0,i0,i3,vR 121,vT,i1,vR 122,vN,vR 123,vR 124,vR 125,vI 335 0,vI 56 0,cP 336]
def K65.x127(P:Params):Obj:=oF vF "strays_at_all" "strays_at_all" (top 20) 3 (19:) (vR 126)
def K65.x133(P:Params):Obj:=oC #[vS "levels_needed" 338,vS "levels_needed" 339,cP 340,vI 58 0,vI 1 0,i0,i0,i3,vR 128,vT,i1,vR 129,vN,vR 130,vR 131,vR 132,vI 343 0,vI 58 0,cP 344]
def K65.x134(P:Params):Obj:=oF vF "levels_needed" "levels_needed" (top 21) 3 (19:) (vR 133)
def K65.x145(P:Params):Obj:=oC #[vS "__init__" 358,vS "Demands.__init__" 359,cP 360,vI 63 0,vI 3 0,i0,i0,i3,vR 142,vT,i1,vR 143,vN,vN,vN,vR 144,vI 361 0,vI 63 0,cP 362]
def K65.x146(P:Params):Obj:=oF vF "__init__" "Demands.__init__" (L2.inClass (top 22) 0) 3 (19:) (vR 145)
def K65.x149(P:Params):Obj:=oT #[vS "self" 367,vS "demand" 368,vS "names" 369,vS "mode" 370,vS "row" 371,vS "rule" 372]
def K65.x152(P:Params):Obj:=oC #[vS "look_by" 364,vS "Demands.look_by" 365,cP 366,vI 75 0,vI 2 0,i0,i0,i3,vR 147,vT,i1,vR 148,vN,vR 149,vR 150,vR 151,vI 373 0,vI 75 0,cP 374]
def K65.x153(P:Params):Obj:=oF vF "look_by" "Demands.look_by" (L2.inClass (top 22) 1) 3 (19:) (vR 152)
def K65.x156(P:Params):Obj:=oT #[vS "self" 379,vS "spot" 380,vS "place" 381,vS "term" 382,vS "kind" 383,vS "kinds" 384,vS "number" 385,vS "part" 386]
def K65.x159(P:Params):Obj:=oC #[vS "look" 376,vS "Demands.look" 377,cP 378,vI 81 0,vI 5 0,i0,i0,i3,vR 154,vT,i1,vR 155,vN,vR 156,vR 157,vR 158,vI 387 0,vI 81 0,cP 388]
def K65.x160(P:Params):Obj:=oF vF "look" "Demands.look" (L2.inClass (top 22) 2) 3 (19:) (vR 159)
def K65.x163(P:Params):Obj:=oT #[vS "self" 393,vS "demand" 394,vS "step" 395]
def K65.x166(P:Params):Obj:=oC #[vS "meet_demand" 390,vS "Demands.meet_demand" 391,cP 392,vI 92 0,vI 3 0,i0,i0,i3,vR 161,vT,i1,vR 162,vN,vR 163,vR 164,vR 165,vI 396 0,vI 92 0,cP 397]
def K65.x167(P:Params):Obj:=oF vF "meet_demand" "Demands.meet_demand" (L2.inClass (top 22) 3) 3 (19:) (vR 166)
def K65.x173(P:Params):Obj:=oC #[vS "meet_fault" 399,vS "Demands.meet_fault" 400,cP 401,vI 97 0,vI 2 0,i0,i0,i3,vR 168,vT,i1,vR 169,vN,vR 170,vR 171,vR 172,vI 404 0,vI 97 0,cP 405]
def K65.x174(P:Params):Obj:=oF vF "meet_fault" "Demands.meet_fault" (L2.inClass (top 22) 4) 3 (19:) (vR 173)
def K65.x180(P:Params):Obj:=oC #[vS "tree_and_place" 407,vS "Demands.tree_and_place" 408,cP 409,vI 101 0,vI 1 0,i0,i0,i3,vR 175,vT,i1,vR 176,vN,vR 177,vR 178,vR 179,vI 411 0,vI 101 0,cP 412]
def K65.x181(P:Params):Obj:=oF vF "tree_and_place" "Demands.tree_and_place" (L2.inClass (top 22) 5) 3 (19:) (vR 180)
def K65.x182(P:Params):Obj:=oT #[vS "fault" 414,vS "kinds_below" 415,vS "steps" 416,vS "turning" 417,vS "waiting" 418]
def K65.x183(P:Params):Obj:=Obj.mk (Value.type "dict") none (Data.dict #[hE P "__module__" 353 (19:),hE P "__firstlineno__" 357 (vI 61 356),hE P "__init__" 363 (vR 146),hE P "look_by" 375 (vR 153),hE P "look" 389 (vR 160),hE P "meet_demand" 398 (vR 167),hE P "meet_fault" 406 (vR 174),hE P "tree_and_place" 413 (vR 181),hE P "__static_attributes__" 419 (vR 182),hE P "__dict__" 421 (vR 185),hE P "__weakref__" 423 (vR 186),hE P "__doc__" 424 vN] 4) #[]
def K65.x184(P:Params):Obj:=Obj.mk (Value.type "type") none (Data.cls (ClassData.mk (Str.ofString "Demands") [Value.type "object"] [vR 184,Value.type "object"] 183 (Str.ofString "Demands") true [] [] false none false)) #[none,none,some (vS "Demands" 346),some (vS "Demands" 354),some (Value.builtin "object.__new__"),some (Value.bool true)]
def K65.x185(P:Params):Obj:=Obj.mk (Value.type "getset_descriptor") none (Data.fields #[vS "__dict__" 420,vR 184,Value.builtin "function.__dict__",Value.builtin "function.__dict__#set"]) #[]
def K65.x186(P:Params):Obj:=Obj.mk (Value.type "getset_descriptor") none (Data.fields #[vS "__weakref__" 422,vR 184,Value.builtin "ExceptionGroup.__weakref__",vN]) #[]
def K65.x191(P:Params):Obj:=oT #[vS "turning" 432,vS "mode" 433,vS "name" 434,vS "kind" 435,vS "rules" 436,vS "row" 437,vS "rule" 438]
def K65.x194(P:Params):Obj:=oC #[vS "rule_of" 429,vS "rule_of" 430,cP 431,vI 104 0,vI 3 0,i0,i0,i3,vR 189,vT,i1,vR 190,vN,vR 191,vR 192,vR 193,vI 439 0,vI 104 0,cP 440]
def K65.x195(P:Params):Obj:=oF vF "rule_of" "rule_of" (top 24) 3 (vS "turnery.turnings" 427) (vR 194)
def K65.x198(P:Params):Obj:=oT #[vS "one" 453,vS "other" 454,vS "start" 455]
def K65.x201(P:Params):Obj:=oC #[vS "behind" 450,vS "behind" 451,cP 452,vI 115 0,vI 2 0,i0,i0,i3,vR 196,vT,i1,vR 197,vN,vR 198,vR 199,vR 200,vI 458 0,vI 115 0,cP 459]
def K65.x202(P:Params):Obj:=oF vF "behind" "behind" (top 29) 3 (33:) (vR 201)
def K65.x206(P:Params):Obj:=oC #[vS "mode_behind" 461,vS "mode_behind" 462,cP 463,vI 120 0,vI 3 0,i0,i0,i3,vR 203,vT,i1,vR 204,vN,vN,vN,vR 205,vI 464 0,vI 120 0,cP 465]
def K65.x207(P:Params):Obj:=oF vF "mode_behind" "mode_behind" (top 30) 3 (33:) (vR 206)
def K65.x220(P:Params):Obj:=oC #[vS "__init__" 479,vS "TermBehind.__init__" 480,cP 481,vI 125 0,vI 2 0,i0,i0,i3,vR 215,vT,i1,vR 216,vN,vR 217,vR 218,vR 219,vI 484 0,vI 125 0,cP 485]
def K65.x221(P:Params):Obj:=oF vF "__init__" "TermBehind.__init__" (L2.inClass (top 31) 0) 3 (33:) (vR 220)
def K65.x224(P:Params):Obj:=oT #[vS "self" 490,vS "mode" 491,vS "term" 492,vS "room" 493]
def K65.x227(P:Params):Obj:=oC #[vS "by_mode" 487,vS "TermBehind.by_mode" 488,cP 489,vI 129 0,vI 4 0,i0,i0,i3,vR 222,vT,i1,vR 223,vN,vR 224,vR 225,vR 226,vI 494 0,vI 129 0,cP 495]
def K65.x228(P:Params):Obj:=oF vF "by_mode" "TermBehind.by_mode" (L2.inClass (top 31) 1) 3 (33:) (vR 227)
def K65.x232(P:Params):Obj:=oC #[vS "by_rule" 497,vS "TermBehind.by_rule" 498,cP 499,vI 135 0,vI 4 0,i0,i0,i3,vR 229,vT,i1,vR 230,vN,vN,vN,vR 231,vI 500 0,vI 135 0,cP 501]
def K65.x233(P:Params):Obj:=oF vF "by_rule" "TermBehind.by_rule" (L2.inClass (top 31) 2) 3 (33:) (vR 232)
def K65.x239(P:Params):Obj:=oC #[vS "take_one" 503,vS "TermBehind.take_one" 504,cP 505,vI 143 0,vI 2 0,i0,i0,i3,vR 234,vT,i1,vR 235,vN,vR 236,vR 237,vR 238,vI 508 0,vI 143 0,cP 509]
def K65.x240(P:Params):Obj:=oF vF "take_one" "TermBehind.take_one" (L2.inClass (top 31) 3) 3 (33:) (vR 239)
def K65.x242(P:Params):Obj:=Obj.mk (Value.type "dict") none (Data.dict #[hE P "__module__" 474 (33:),hE P "__firstlineno__" 478 (vI 123 477),hE P "__init__" 486 (vR 221),hE P "by_mode" 496 (vR 228),hE P "by_rule" 502 (vR 233),hE P "take_one" 510 (vR 240),hE P "__static_attributes__" 513 (vR 241),hE P "__dict__" 515 (vR 244),hE P "__weakref__" 517 (vR 245),hE P "__doc__" 518 vN] 4) #[]
def K65.x243(P:Params):Obj:=Obj.mk (Value.type "type") none (Data.cls (ClassData.mk (Str.ofString "TermBehind") [Value.type "object"] [vR 243,Value.type "object"] 242 (Str.ofString "TermBehind") true [] [] false none false)) #[none,none,some (vS "TermBehind" 467),some (vS "TermBehind" 475),some (Value.builtin "object.__new__"),some (Value.bool true)]
def K65.x244(P:Params):Obj:=Obj.mk (Value.type "getset_descriptor") none (Data.fields #[vS "__dict__" 514,vR 243,Value.builtin "function.__dict__",Value.builtin "function.__dict__#set"]) #[]
def K65.x245(P:Params):Obj:=Obj.mk (Value.type "getset_descriptor") none (Data.fields #[vS "__weakref__" 516,vR 243,Value.builtin "ExceptionGroup.__weakref__",vN]) #[]
def K65.x250(P:Params):Obj:=oT #[vS "_law_script" 526,vS "_law_k" 527]
def K65.x253(P:Params):Obj:=oC #[vS "_law_cell_at" 523,vS "_law_cell_at" 524,cP 525,vI 150 0,vI 2 0,i0,i0,i3,vR 248,vT,i1,vR 249,vN,vR 250,vR 251,vR 252,vI 528 0,vI 150 0,cP 529]
def K65.x254(P:Params):Obj:=oF vF "_law_cell_at" "_law_cell_at" (top 33) 3 mN (vR 253)
def K65.x257(P:Params):Obj:=oT #[vS "_law_cell" 534,vS "_law_k" 535,vS "_law_number" 536]
def K65.x260(P:Params):Obj:=oC #[vS "_law_mixed" 531,vS "_law_mixed" 532,cP 533,vI 154 0,vI 2 0,i0,i0,i3,vR 255,vT,i1,vR 256,vN,vR 257,vR 258,vR 259,vI 537 0,vI 154 0,cP 538]
def K65.x261(P:Params):Obj:=oF vF "_law_mixed" "_law_mixed" (top 34) 3 mN (vR 260)
def K65.x265(P:Params):Obj:=oC #[vS "_law_names" 540,vS "_law_names" 541,cP 542,vI 158 0,vI 1 0,i0,i0,i3,vR 262,vT,i1,vR 263,vN,vN,vN,vR 264,vI 543 0,vI 158 0,cP 544]
def K65.x266(P:Params):Obj:=oF vF "_law_names" "_law_names" (top 35) 3 mN (vR 265)
def K65.x272(P:Params):Obj:=oC #[vS "_law_great" 546,vS "_law_great" 547,cP 548,vI 171 0,vI 1 0,i0,i0,i3,vR 267,vT,i1,vR 268,vN,vR 269,vR 270,vR 271,vI 550 0,vI 171 0,cP 551]
def K65.x273(P:Params):Obj:=oF vF "_law_great" "_law_great" (top 36) 3 mN (vR 272)
def K65.x277(P:Params):Obj:=oC #[vS "_law_wood" 553,vS "_law_wood" 554,cP 555,vI 173 0,vI 2 0,i0,i0,i3,vR 274,vT,i1,vR 275,vN,vN,vN,vR 276,vI 556 0,vI 173 0,cP 557]
def K65.x278(P:Params):Obj:=oF vF "_law_wood" "_law_wood" (top 37) 3 mN (vR 277)
def K65.x282(P:Params):Obj:=oC #[vS "_law_typed" 559,vS "_law_typed" 560,cP 561,vI 186 0,vI 7 0,i0,i0,i3,vR 279,vT,i1,vR 280,vN,vN,vN,vR 281,vI 562 0,vI 186 0,cP 563]
def K65.x283(P:Params):Obj:=oF vF "_law_typed" "_law_typed" (top 38) 3 mN (vR 282)
def K65.x286(P:Params):Obj:=oT #[vS "_law_branches" 568,vS "_law_owners" 569,vS "_law_calls_here" 570,vS "_law_branch" 571,vS "_law_mode" 572]
def K65.x289(P:Params):Obj:=oC #[vS "_law_calls" 565,vS "_law_calls" 566,cP 567,vI 202 0,vI 2 0,i0,i0,i3,vR 284,vT,i1,vR 285,vN,vR 286,vR 287,vR 288,vI 573 0,vI 202 0,cP 574]
def K65.x290(P:Params):Obj:=oF vF "_law_calls" "_law_calls" (top 39) 3 mN (vR 289)
def K65.x293(P:Params):Obj:=oT #[vS "_law_script" 579,vS "_law_used" 580,vS "_law_deep" 581,vS "_law_wood_here" 582,vS "_law_out" 583,vS "_law_number" 584,vS "_law_owners" 585,vS "_law_i" 586,vS "_law_some" 587,vS "_law_calls_here" 588,vS "_law_start" 589,vS "_law_modes" 590,vS "_law_kind" 591,vS "_law_other" 592,vS "_law_rules" 593,vS "_law_row" 594]
def K65.x296(P:Params):Obj:=oC #[vS "_law_passing" 576,vS "_law_passing" 577,cP 578,vI 209 0,vI 5 0,i0,i0,i3,vR 291,vT,i1,vR 292,vN,vR 293,vR 294,vR 295,vI 595 0,vI 209 0,cP 596]
def K65.x297(P:Params):Obj:=oF vF "_law_passing" "_law_passing" (top 40) 3 mN (vR 296)
def K65.x300(P:Params):Obj:=oT #[vS "_law_turning" 601,vS "_law_mode" 602,vS "_law_name" 603,vS "_law_kind" 604,vS "_law_rules" 605,vS "_law_row" 606,vS "_law_rule_here" 607]
def K65.x303(P:Params):Obj:=oC #[vS "_law_rule" 598,vS "_law_rule" 599,cP 600,vI 227 0,vI 3 0,i0,i0,i3,vR 298,vT,i1,vR 299,vN,vR 300,vR 301,vR 302,vI 608 0,vI 227 0,cP 609]
def K65.x304(P:Params):Obj:=oF vF "_law_rule" "_law_rule" (top 41) 3 mN (vR 303)
def K65.x310(P:Params):Obj:=oC #[vS "_law_whole" 611,vS "_law_whole" 612,cP 613,vI 233 0,vI 1 0,i0,i0,i3,vR 305,vT,i1,vR 306,vN,vR 307,vR 308,vR 309,vI 615 0,vI 233 0,cP 616]
def K65.x311(P:Params):Obj:=oF vF "_law_whole" "_law_whole" (top 42) 3 mN (vR 310)
def K65.x314(P:Params):Obj:=oT #[vS "_law_found" 621,vS "_law_part" 622]
def K65.x317(P:Params):Obj:=oC #[vS "_law_is_term" 618,vS "_law_is_term" 619,cP 620,vI 235 0,vI 1 0,i0,i0,i3,vR 312,vT,i1,vR 313,vN,vR 314,vR 315,vR 316,vI 623 0,vI 235 0,cP 624]
def K65.x318(P:Params):Obj:=oF vF "_law_is_term" "_law_is_term" (top 43) 3 mN (vR 317)
def K65.x321(P:Params):Obj:=oT #[vS "_law_found" 629,vS "_law_due_here" 630,vS "_law_kind" 631,vS "_law_rules" 632,vS "_law_rule_here" 633]
def K65.x324(P:Params):Obj:=oC #[vS "_law_same" 626,vS "_law_same" 627,cP 628,vI 248 0,vI 2 0,i0,i0,i3,vR 319,vT,i1,vR 320,vN,vR 321,vR 322,vR 323,vI 634 0,vI 248 0,cP 635]
def K65.x325(P:Params):Obj:=oF vF "_law_same" "_law_same" (top 44) 3 mN (vR 324)
def K65.x329(P:Params):Obj:=oC #[vS "_law_copy" 637,vS "_law_copy" 638,cP 639,vI 256 0,vI 1 0,i0,i0,i3,vR 326,vT,i1,vR 327,vN,vN,vN,vR 328,vI 640 0,vI 256 0,cP 641]
def K65.x330(P:Params):Obj:=oF vF "_law_copy" "_law_copy" (top 45) 3 mN (vR 329)
def K65.x334(P:Params):Obj:=oC #[vS "_law_on" 643,vS "_law_on" 644,cP 645,vI 259 0,vI 3 0,i0,i0,i3,vR 331,vT,i1,vR 332,vN,vN,vN,vR 333,vI 646 0,vI 259 0,cP 647]
def K65.x335(P:Params):Obj:=oF vF "_law_on" "_law_on" (top 46) 3 mN (vR 334)
def K65.x338(P:Params):Obj:=oT #[vS "_law_term" 652,vS "_law_total" 653,vS "_law_part" 654]
def K65.x341(P:Params):Obj:=oC #[vS "_law_count" 649,vS "_law_count" 650,cP 651,vI 267 0,vI 1 0,i0,i0,i3,vR 336,vT,i1,vR 337,vN,vR 338,vR 339,vR 340,vI 655 0,vI 267 0,cP 656]
def K65.x342(P:Params):Obj:=oF vF "_law_count" "_law_count" (top 47) 3 mN (vR 341)
def K65.x346(P:Params):Obj:=oC #[vS "_law_numbered" 658,vS "_law_numbered" 659,cP 660,vI 274 0,vI 2 0,i0,i0,i3,vR 343,vT,i1,vR 344,vN,vN,vN,vR 345,vI 661 0,vI 274 0,cP 662]
def K65.x347(P:Params):Obj:=oF vF "_law_numbered" "_law_numbered" (top 48) 3 mN (vR 346)
def K65.x350(P:Params):Obj:=oT #[vS "_law_one" 667,vS "_law_other" 668,vS "_law_read" 669,vS "_law_pairs" 670,vS "_law_start" 671,vS "_law_great_here" 672,vS "_law_modes" 673,vS "_law_first" 674,vS "_law_second" 675,vS "_law_kind" 676,vS "_law_terms" 677,vS "_law_rules" 678,vS "_law_term" 679,vS "_law_rule_here" 680]
def K65.x353(P:Params):Obj:=oC #[vS "_law_due" 664,vS "_law_due" 665,cP 666,vI 281 0,vI 2 0,i0,i0,i3,vR 348,vT,i1,vR 349,vN,vR 350,vR 351,vR 352,vI 681 0,vI 281 0,cP 682]
def K65.x354(P:Params):Obj:=oF vF "_law_due" "_law_due" (top 49) 3 mN (vR 353)
def K65.x358(P:Params):Obj:=oC #[vS "law" 684,vS "law" 685,cP 686,vI 298 0,vI 1 0,i0,i0,i3,vR 355,vT,i1,vR 356,vN,vN,vN,vR 357,vI 687 0,vI 298 0,cP 688]
def K65.x359(P:Params):Obj:=oF vF "law" "law" (top 50) 3 mN (vR 358)
def K65.hp:Params->Fg:=λP=>[(2,Obj.mk vN none (Data.dict #[]) #[]),(3,x3 P),(15,oT #[]),(17,oT #[vS "k" 190]),(18,oT #[]),(20,x20 P),(21,x21 P),(22,oT #[Value.type "ValueError"]),(29,oT #[]),(30,x30 P),(31,x31 P),(32,x32 P),(35,oT #[vR 31]),(42,oT #[]),(43,x43 P),(44,x44 P),(47,oT #[vR 31]),(54,oT #[]),(55,x55 P),(56,x56 P),(59,oT #[]),(61,oT #[vS "term" 251]),(62,oT #[]),(64,x64 P),(65,x65 P),(66,oT #[]),(68,x68 P),(69,oT #[]),(71,x71 P),(72,x72 P),(73,oT #[]),(76,x76 P),(77,x77 P),(78,oT #[]),(80,oT #[vS "term" 273,vS "parts" 274]),(81,oT #[]),(83,x83 P),(84,x84 P),(85,oT #[]),(88,x88 P),(89,x89 P),(90,oT #[]),(92,oT #[vS "wood" 289,vS "kind" 290]),(93,oT #[]),(95,x95 P),(96,x96 P),(97,oT #[]),(100,x100 P),(101,x101 P),(102,oT #[]),(104,x104 P),(105,oT #[]),(107,x107 P),(108,x108 P),(109,oT #[]),(112,x112 P),(113,x113 P),(114,oT #[]),(116,oT #[vS "wood" 324]),(117,oT #[]),(119,x119 P),(120,x120 P),(121,oT #[]),(123,oT #[vS "turning" 333,vS "wood" 334]),(124,oT #[]),(126,x126 P),(127,x127 P),(128,oT #[]),(130,oT #[vS "fault" 341,vS "spot" 342]),(131,oT #[]),(133,x133 P),(134,x134 P),(142,oT #[]),(145,x145 P),(146,x146 P),(147,oT #[]),(149,x149 P),(150,oT #[]),(152,x152 P),(153,x153 P),(154,oT #[]),(156,x156 P),(157,oT #[]),(159,x159 P),(160,x160 P),(161,oT #[]),(163,x163 P),(164,oT #[]),(166,x166 P),(167,x167 P),(168,oT #[]),(170,oT #[vS "self" 402,vS "fault" 403]),(171,oT #[]),(173,x173 P),(174,x174 P),(175,oT #[]),(177,oT #[vS "self" 410]),(178,oT #[]),(180,x180 P),(181,x181 P),(182,x182 P),(183,x183 P),(184,x184 P),(185,x185 P),(186,x186 P),(189,oT #[]),(191,x191 P),(192,oT #[]),(194,x194 P),(195,x195 P),(196,oT #[]),(198,x198 P),(199,oT #[vS "one" 456,vS "other" 457]),(201,x201 P),(202,x202 P),(203,oT #[]),(206,x206 P),(207,x207 P),(215,oT #[]),(217,oT #[vS "self" 482,vS "other" 483]),(218,oT #[]),(220,x220 P),(221,x221 P),(222,oT #[]),(224,x224 P),(225,oT #[]),(227,x227 P),(228,x228 P),(229,oT #[]),(232,x232 P),(233,x233 P),(234,oT #[]),(236,oT #[vS "self" 506,vS "room" 507]),(237,oT #[]),(239,x239 P),(240,x240 P),(241,oT #[vS "left" 511,vS "other" 512]),(242,x242 P),(243,x243 P),(244,x244 P),(245,x245 P),(248,oT #[]),(250,x250 P),(251,oT #[]),(253,x253 P),(254,x254 P),(255,oT #[]),(257,x257 P),(258,oT #[]),(260,x260 P),(261,x261 P),(262,oT #[]),(265,x265 P),(266,x266 P),(267,oT #[]),(269,oT #[vS "_law_cell" 549]),(270,oT #[]),(272,x272 P),(273,x273 P),(274,oT #[]),(277,x277 P),(278,x278 P),(279,oT #[]),(282,x282 P),(283,x283 P),(284,oT #[]),(286,x286 P),(287,oT #[]),(289,x289 P),(290,x290 P),(291,oT #[]),(293,x293 P),(294,oT #[]),(296,x296 P),(297,x297 P),(298,oT #[]),(300,x300 P),(301,oT #[]),(303,x303 P),(304,x304 P),(305,oT #[]),(307,oT #[vS "_law_found" 614]),(308,oT #[]),(310,x310 P),(311,x311 P),(312,oT #[]),(314,x314 P),(315,oT #[]),(317,x317 P),(318,x318 P),(319,oT #[]),(321,x321 P),(322,oT #[]),(324,x324 P),(325,x325 P),(326,oT #[]),(329,x329 P),(330,x330 P),(331,oT #[]),(334,x334 P),(335,x335 P),(336,oT #[]),(338,x338 P),(339,oT #[]),(341,x341 P),(342,x342 P),(343,oT #[]),(346,x346 P),(347,x347 P),(348,oT #[]),(350,x350 P),(351,oT #[]),(353,x353 P),(354,x354 P),(355,oT #[]),(358,x358 P),(359,x359 P)]
end
def PySem.W.Fast.tw7180788602112676192:PySem.Params->Fg:=K65.hp
theorem PySem.W.Fast.te7180788602112676192:K65.hp=PySem.W.Fast.tw7180788602112676192:=rfl
namespace PySem.W.Fast
open PySem K65
def tw9106297317971567296:Params->Obj:=λP=>oF vN "meet_demand" "Demands.meet_demand" (L2.inClass (top 22) 3) 0 vN vN
def te9106297317971567296:=@rfl _ tw9106297317971567296
def tw8988115588169453557:Params->Obj:=λP=>oF vN "_law_mixed" "_law_mixed" (top 34) 0 vN vN
def te8988115588169453557:=@rfl _ tw8988115588169453557
def tw901094941997025709:Params->Obj:=λP=>oF vF "_law_due" "_law_due" (top 49) 3 mN (vR 353)
def te901094941997025709:=@rfl _ tw901094941997025709
def tw5228107930173939395:Params->Obj:=λP=>oF vF "by_rule" "TermBehind.by_rule" (L2.inClass (top 31) 2) 3 (33:) (vR 232)
def te5228107930173939395:=@rfl _ tw5228107930173939395
def tw13215023469224344601:Params->Obj:=λP=>oF vN "_law_whole" "_law_whole" (top 42) 0 vN vN
def te13215023469224344601:=@rfl _ tw13215023469224344601
def tw16273170289494154237:Params->Obj:=λP=>oF vF "with_modes" "with_modes" (top 8) 3 (vS "turnery.terms" 246) (vR 76)
def te16273170289494154237:=@rfl _ tw16273170289494154237
def tw13506999111171415104:Params->Obj:=λP=>oF vF "__init__" "TermBehind.__init__" (L2.inClass (top 31) 0) 3 (33:) (vR 220)
def te13506999111171415104:=@rfl _ tw13506999111171415104
def tw1557786631884187877:Params->Obj:=λP=>oF vN "meet_fault" "Demands.meet_fault" (L2.inClass (top 22) 4) 0 vN vN
def te1557786631884187877:=@rfl _ tw1557786631884187877
def tw7869839896933229373:Params->Obj:=λP=>oF vF "rows_of" "rows_of" (top 12) 3 (vS "turnery.woods" 278) (vR 95)
def te7869839896933229373:=@rfl _ tw7869839896933229373
def tw819862803008523735:Params->Obj:=λP=>oF vF "meet_fault" "Demands.meet_fault" (L2.inClass (top 22) 4) 3 (19:) (vR 173)
def te819862803008523735:=@rfl _ tw819862803008523735
def tw15281038219592625663:Params->Obj:=λP=>oF vF "_law_great" "_law_great" (top 36) 3 mN (vR 272)
def te15281038219592625663:=@rfl _ tw15281038219592625663
def tw6048142182629222718:Params->Obj:=λP=>oF vF "_law_names" "_law_names" (top 35) 3 mN (vR 265)
def te6048142182629222718:=@rfl _ tw6048142182629222718
def tw16660718937188475335:Params->Obj:=λP=>oF vN "_law_rule" "_law_rule" (top 41) 0 vN vN
def te16660718937188475335:=@rfl _ tw16660718937188475335
def tw529011303722722001:Params->Obj:=λP=>oF vN "_law_count" "_law_count" (top 47) 0 vN vN
def te529011303722722001:=@rfl _ tw529011303722722001
def tw17027583721265520217:Params->Obj:=λP=>oF vN "levels_needed" "levels_needed" (top 21) 0 vN vN
def te17027583721265520217:=@rfl _ tw17027583721265520217
def tw16264745999545321058:Params->Obj:=λP=>oF vN "rows_of" "rows_of" (top 12) 0 vN vN
def te16264745999545321058:=@rfl _ tw16264745999545321058
def tw2124844032609557790:Params->Obj:=λP=>oF vF "__init__" "Demands.__init__" (L2.inClass (top 22) 0) 3 (19:) (vR 145)
def te2124844032609557790:=@rfl _ tw2124844032609557790
def tw6452199663198057761:Params->Obj:=λP=>oF vN "_law_copy" "_law_copy" (top 45) 0 vN vN
def te6452199663198057761:=@rfl _ tw6452199663198057761
def tw1632519263333544734:Params->Obj:=λP=>oF vN "own_wood" "own_wood" (top 11) 0 vN vN
def te1632519263333544734:=@rfl _ tw1632519263333544734
def tw15907254483337238852:Params->Obj:=λP=>oF vF "_law_passing" "_law_passing" (top 40) 3 mN (vR 296)
def te15907254483337238852:=@rfl _ tw15907254483337238852
def tw18232998006669338252:Params->Obj:=λP=>oF vF "is_call" "is_call" (top 6) 3 (vS "turnery.terms" 246) (vR 64)
def te18232998006669338252:=@rfl _ tw18232998006669338252
def tw186134751143730374:Params->Obj:=λP=>oF vF "look" "Demands.look" (L2.inClass (top 22) 2) 3 (19:) (vR 159)
def te186134751143730374:=@rfl _ tw186134751143730374
def tw13829136894999775531:Params->Obj:=λP=>oF vF "_law_copy" "_law_copy" (top 45) 3 mN (vR 329)
def te13829136894999775531:=@rfl _ tw13829136894999775531
def tw14292825953297184933:Params->Obj:=λP=>oF vF "_law_rule" "_law_rule" (top 41) 3 mN (vR 303)
def te14292825953297184933:=@rfl _ tw14292825953297184933
def tw13584588223810727985:Params->Obj:=λP=>oF vF "row_above" "row_above" (top 18) 3 (vS "turnery.ways" 319) (vR 119)
def te13584588223810727985:=@rfl _ tw13584588223810727985
def tw7866278174536780077:Params->Obj:=λP=>oF vF "_wall" "_wall" (top 0) 3 (vS "__main__" 164) (vR 20)
def te7866278174536780077:=@rfl _ tw7866278174536780077
def tw8311111767436394195:Params->Obj:=λP=>oF vN "row_above" "row_above" (top 18) 0 vN vN
def te8311111767436394195:=@rfl _ tw8311111767436394195
def tw16931097873198382004:Params->Obj:=λP=>oF vN "take_one" "TermBehind.take_one" (L2.inClass (top 31) 3) 0 vN vN
def te16931097873198382004:=@rfl _ tw16931097873198382004
def tw4325870431510730068:Params->Obj:=λP=>oF vF "_law_count" "_law_count" (top 47) 3 mN (vR 341)
def te4325870431510730068:=@rfl _ tw4325870431510730068
def tw17397624547703599414:Params->Obj:=λP=>oF vF "behind" "behind" (top 29) 3 (33:) (vR 201)
def te17397624547703599414:=@rfl _ tw17397624547703599414
def tw4817251743011269993:Params->Obj:=λP=>oF vN "_law_due" "_law_due" (top 49) 0 vN vN
def te4817251743011269993:=@rfl _ tw4817251743011269993
def tw10912372179690238871:Params->Obj:=λP=>oF vN "strays_at_all" "strays_at_all" (top 20) 0 vN vN
def te10912372179690238871:=@rfl _ tw10912372179690238871
def tw13267216716507999396:Params->Obj:=λP=>oF vN "_law_numbered" "_law_numbered" (top 48) 0 vN vN
def te13267216716507999396:=@rfl _ tw13267216716507999396
def tw9171746898961766725:Params->Obj:=λP=>oF vN "_law_calls" "_law_calls" (top 39) 0 vN vN
def te9171746898961766725:=@rfl _ tw9171746898961766725
def tw8776086812194675527:Params->Obj:=λP=>oF vF "rule_of" "rule_of" (top 24) 3 (vS "turnery.turnings" 427) (vR 194)
def te8776086812194675527:=@rfl _ tw8776086812194675527
def tw7099610934863491131:Params->Obj:=λP=>oF vN "_law_names" "_law_names" (top 35) 0 vN vN
def te7099610934863491131:=@rfl _ tw7099610934863491131
def tw1058399866287557903:Params->Obj:=λP=>oF vN "as_met" "as_met" (top 14) 0 vN vN
def te1058399866287557903:=@rfl _ tw1058399866287557903
def tw18416552728400729219:Params->Obj:=λP=>oF vF "with_parts" "with_parts" (top 9) 3 (vS "turnery.terms" 246) (vR 83)
def te18416552728400729219:=@rfl _ tw18416552728400729219
def tw8837487997012242223:Params->Obj:=λP=>oF vF "_law_mixed" "_law_mixed" (top 34) 3 mN (vR 260)
def te8837487997012242223:=@rfl _ tw8837487997012242223
def tw9857192961412460611:Params->Obj:=λP=>oF vN "is_call" "is_call" (top 6) 0 vN vN
def te9857192961412460611:=@rfl _ tw9857192961412460611
def tw5528451503815504203:Params->Obj:=λP=>oF vF "_law_is_term" "_law_is_term" (top 43) 3 mN (vR 317)
def te5528451503815504203:=@rfl _ tw5528451503815504203
def tw12869427795575164747:Params->Obj:=λP=>oF vF "levels_needed" "levels_needed" (top 21) 3 (19:) (vR 133)
def te12869427795575164747:=@rfl _ tw12869427795575164747
def tw9957852856844087797:Params->Obj:=λP=>oF vN "behind" "behind" (top 29) 0 vN vN
def te9957852856844087797:=@rfl _ tw9957852856844087797
def tw8411685666888831376:Params->Obj:=λP=>oF vF "as_met" "as_met" (top 14) 3 (vS "turnery.numbering" 294) (vR 100)
def te8411685666888831376:=@rfl _ tw8411685666888831376
def tw14274244976985674439:Params->Obj:=λP=>oF vN "look" "Demands.look" (L2.inClass (top 22) 2) 0 vN vN
def te14274244976985674439:=@rfl _ tw14274244976985674439
def tw5527746534672601938:Params->Obj:=λP=>oF vF "law" "law" (top 50) 3 mN (vR 358)
def te5527746534672601938:=@rfl _ tw5527746534672601938
def tw12862226284587002330:Params->Obj:=λP=>oF vN "_law_same" "_law_same" (top 44) 0 vN vN
def te12862226284587002330:=@rfl _ tw12862226284587002330
def tw4144848435592056301:Params->Obj:=λP=>oF vN "with_parts" "with_parts" (top 9) 0 vN vN
def te4144848435592056301:=@rfl _ tw4144848435592056301
def tw2395633825625594092:Params->Obj:=λP=>oF vN "__init__" "TermBehind.__init__" (L2.inClass (top 31) 0) 0 vN vN
def te2395633825625594092:=@rfl _ tw2395633825625594092
def tw2614320233339026407:Params->Obj:=λP=>oF vF "own_wood" "own_wood" (top 11) 3 (vS "turnery.woods" 278) (vR 88)
def te2614320233339026407:=@rfl _ tw2614320233339026407
def tw7780661673838466334:Params->Obj:=λP=>oF vN "mode_behind" "mode_behind" (top 30) 0 vN vN
def te7780661673838466334:=@rfl _ tw7780661673838466334
def tw5308093843299194151:Params->Obj:=λP=>oF vF "meet_demand" "Demands.meet_demand" (L2.inClass (top 22) 3) 3 (19:) (vR 166)
def te5308093843299194151:=@rfl _ tw5308093843299194151
def tw3075498546492172884:Params->Obj:=λP=>oF vN "_law_typed" "_law_typed" (top 38) 0 vN vN
def te3075498546492172884:=@rfl _ tw3075498546492172884
def tw13273568797261988489:Params->Obj:=λP=>oF vN "_law_passing" "_law_passing" (top 40) 0 vN vN
def te13273568797261988489:=@rfl _ tw13273568797261988489
def tw4265543990070440111:Params->Obj:=λP=>oF vF "tree_and_place" "Demands.tree_and_place" (L2.inClass (top 22) 5) 3 (19:) (vR 180)
def te4265543990070440111:=@rfl _ tw4265543990070440111
def tw15598184440326911590:Params->Obj:=λP=>oF vF "_law_cell_at" "_law_cell_at" (top 33) 3 mN (vR 253)
def te15598184440326911590:=@rfl _ tw15598184440326911590
def tw18193951290787813979:Params->Obj:=λP=>oF vN "calls_of" "calls_of" (top 7) 0 vN vN
def te18193951290787813979:=@rfl _ tw18193951290787813979
def tw12040110245623045397:Params->Obj:=λP=>oF vN "number_calls" "number_calls" (top 15) 0 vN vN
def te12040110245623045397:=@rfl _ tw12040110245623045397
def tw17129276932027873104:Params->Obj:=λP=>oF vN "_law_cell_at" "_law_cell_at" (top 33) 0 vN vN
def te17129276932027873104:=@rfl _ tw17129276932027873104
def tw15092167005827376100:Params->Obj:=λP=>oF vN "_law_great" "_law_great" (top 36) 0 vN vN
def te15092167005827376100:=@rfl _ tw15092167005827376100
def tw9766656265255252209:Params->Obj:=λP=>oF vF "numbered_mode" "numbered_mode" (top 16) 3 (vS "turnery.numbering" 294) (vR 112)
def te9766656265255252209:=@rfl _ tw9766656265255252209
def tw10724078263233438570:Params->Obj:=λP=>oF vN "tree_and_place" "Demands.tree_and_place" (L2.inClass (top 22) 5) 0 vN vN
def te10724078263233438570:=@rfl _ tw10724078263233438570
def tw3004601786145801230:Params->Obj:=λP=>oF vF "take_one" "TermBehind.take_one" (L2.inClass (top 31) 3) 3 (33:) (vR 239)
def te3004601786145801230:=@rfl _ tw3004601786145801230
def tw6631335887233984652:Params->Obj:=λP=>oF vN "rule_of" "rule_of" (top 24) 0 vN vN
def te6631335887233984652:=@rfl _ tw6631335887233984652
def tw12036373512862400085:Params->Obj:=λP=>oF vF "mode_behind" "mode_behind" (top 30) 3 (33:) (vR 206)
def te12036373512862400085:=@rfl _ tw12036373512862400085
def tw7952744583600870583:Params->Obj:=λP=>oF vF "_law_same" "_law_same" (top 44) 3 mN (vR 324)
def te7952744583600870583:=@rfl _ tw7952744583600870583
def tw2008664936624064031:Params->Obj:=λP=>oF vN "__init__" "Demands.__init__" (L2.inClass (top 22) 0) 0 vN vN
def te2008664936624064031:=@rfl _ tw2008664936624064031
def tw14012668896659996991:Params->Obj:=λP=>oF vF "by_mode" "TermBehind.by_mode" (L2.inClass (top 31) 1) 3 (33:) (vR 227)
def te14012668896659996991:=@rfl _ tw14012668896659996991
def tw11380593711055196272:Params->Obj:=λP=>oF vF "_law_wood" "_law_wood" (top 37) 3 mN (vR 277)
def te11380593711055196272:=@rfl _ tw11380593711055196272
def tw16625364302220118054:Params->Obj:=λP=>oF vN "with_modes" "with_modes" (top 8) 0 vN vN
def te16625364302220118054:=@rfl _ tw16625364302220118054
def tw7328382411692514174:Params->Obj:=λP=>oF vN "_law_is_term" "_law_is_term" (top 43) 0 vN vN
def te7328382411692514174:=@rfl _ tw7328382411692514174
def tw2388193021524965129:Params->Obj:=λP=>oF vF "_law_typed" "_law_typed" (top 38) 3 mN (vR 282)
def te2388193021524965129:=@rfl _ tw2388193021524965129
def tw1079337937545806757:Params->Obj:=λP=>oF vN "_law_on" "_law_on" (top 46) 0 vN vN
def te1079337937545806757:=@rfl _ tw1079337937545806757
def tw8638822786964607159:Params->Obj:=λP=>oF vF "_law_calls" "_law_calls" (top 39) 3 mN (vR 289)
def te8638822786964607159:=@rfl _ tw8638822786964607159
def tw1490618313427345508:Params->Obj:=λP=>oF vF "calls_of" "calls_of" (top 7) 3 (vS "turnery.terms" 246) (vR 71)
def te1490618313427345508:=@rfl _ tw1490618313427345508
def tw9513972404671190064:Params->Obj:=λP=>oF vN "by_rule" "TermBehind.by_rule" (L2.inClass (top 31) 2) 0 vN vN
def te9513972404671190064:=@rfl _ tw9513972404671190064
def tw12815438596071103582:Params->Obj:=λP=>oF vN "law" "law" (top 50) 0 vN vN
def te12815438596071103582:=@rfl _ tw12815438596071103582
def tw4065001907691003032:Params->Obj:=λP=>oF vF "number_calls" "number_calls" (top 15) 3 (vS "turnery.numbering" 294) (vR 107)
def te4065001907691003032:=@rfl _ tw4065001907691003032
def tw16101574417077059668:Params->Obj:=λP=>oF vF "_law_whole" "_law_whole" (top 42) 3 mN (vR 310)
def te16101574417077059668:=@rfl _ tw16101574417077059668
def tw18072098252761516109:Params->Obj:=λP=>oF vN "_law_wood" "_law_wood" (top 37) 0 vN vN
def te18072098252761516109:=@rfl _ tw18072098252761516109
def tw4277681608174183874:Params->Obj:=λP=>oF vF "_law_numbered" "_law_numbered" (top 48) 3 mN (vR 346)
def te4277681608174183874:=@rfl _ tw4277681608174183874
def tw4959622957152852769:Params->Obj:=λP=>oF vF "_law_on" "_law_on" (top 46) 3 mN (vR 334)
def te4959622957152852769:=@rfl _ tw4959622957152852769
def tw13122193204817897432:Params->Obj:=λP=>oF vN "look_by" "Demands.look_by" (L2.inClass (top 22) 1) 0 vN vN
def te13122193204817897432:=@rfl _ tw13122193204817897432
def tw17297651326452130654:Params->Obj:=λP=>oF vN "numbered_mode" "numbered_mode" (top 16) 0 vN vN
def te17297651326452130654:=@rfl _ tw17297651326452130654
def tw11043176025037668839:Params->Obj:=λP=>oF vN "by_mode" "TermBehind.by_mode" (L2.inClass (top 31) 1) 0 vN vN
def te11043176025037668839:=@rfl _ tw11043176025037668839
def tw3653742971343662024:Params->Obj:=λP=>oF vN "_wall" "_wall" (top 0) 0 vN vN
def te3653742971343662024:=@rfl _ tw3653742971343662024
def tw2036065892556236275:Params->Obj:=λP=>oF vF "strays_at_all" "strays_at_all" (top 20) 3 (19:) (vR 126)
def te2036065892556236275:=@rfl _ tw2036065892556236275
def tw17983818633830179624:Params->Obj:=λP=>oF vF "look_by" "Demands.look_by" (L2.inClass (top 22) 1) 3 (19:) (vR 152)
def te17983818633830179624:=@rfl _ tw17983818633830179624
end PySem.W.Fast
def PySem.W.Fast.tw11450604943853493254:PySem.Program:=PySem.Challenge.pw_turnery_k65_pairs_of_modes
theorem PySem.W.Fast.te11450604943853493254:(PySem.Challenge.pw_turnery_k65_pairs_of_modes:PySem.Program)=PySem.W.Fast.tw11450604943853493254:=rfl
def PySem.W.Fast.tw12093827005544093349:PySem.Program:={ PySem.Challenge.pw_turnery_k65_pairs_of_modes with main:={ PySem.Challenge.pw_turnery_k65_pairs_of_modes.main with body:=[K65.top 0,K65.top 2,K65.top 3,K65.top 4,K65.top 6,K65.top 7,K65.top 8,K65.top 9,K65.top 11,K65.top 12,K65.top 14,K65.top 15,K65.top 16,K65.top 18,K65.top 20,K65.top 21,K65.top 22,K65.top 24,K65.top 26,K65.top 27,K65.top 28,K65.top 29,K65.top 30,K65.top 31,K65.top 33,K65.top 34,K65.top 35,K65.top 36,K65.top 37,K65.top 38,K65.top 39,K65.top 40,K65.top 41,K65.top 42,K65.top 43,K65.top 44,K65.top 45,K65.top 46,K65.top 47,K65.top 48,K65.top 49,K65.top 50] } }
theorem PySem.W.Fast.te12093827005544093349:({ PySem.Challenge.pw_turnery_k65_pairs_of_modes with main:={ PySem.Challenge.pw_turnery_k65_pairs_of_modes.main with body:=[K65.top 0,K65.top 2,K65.top 3,K65.top 4,K65.top 6,K65.top 7,K65.top 8,K65.top 9,K65.top 11,K65.top 12,K65.top 14,K65.top 15,K65.top 16,K65.top 18,K65.top 20,K65.top 21,K65.top 22,K65.top 24,K65.top 26,K65.top 27,K65.top 28,K65.top 29,K65.top 30,K65.top 31,K65.top 33,K65.top 34,K65.top 35,K65.top 36,K65.top 37,K65.top 38,K65.top 39,K65.top 40,K65.top 41,K65.top 42,K65.top 43,K65.top 44,K65.top 45,K65.top 46,K65.top 47,K65.top 48,K65.top 49,K65.top 50] } }:PySem.Program)=PySem.W.Fast.tw12093827005544093349:=rfl
def PySem.W.Fast.tw6007909835010984009:List PySem.Stmt:=(PySem.Challenge.pw_turnery_k65_pairs_of_modes.main.body.drop 0).take 3
theorem PySem.W.Fast.te6007909835010984009:((PySem.Challenge.pw_turnery_k65_pairs_of_modes.main.body.drop 0).take 3:List PySem.Stmt)=PySem.W.Fast.tw6007909835010984009:=rfl
def PySem.W.Fast.tw9705155049114355521:List PySem.Stmt:=(PySem.Challenge.pw_turnery_k65_pairs_of_modes.main.body.drop 3).take 1
theorem PySem.W.Fast.te9705155049114355521:((PySem.Challenge.pw_turnery_k65_pairs_of_modes.main.body.drop 3).take 1:List PySem.Stmt)=PySem.W.Fast.tw9705155049114355521:=rfl
def PySem.W.Fast.tw8214410412669395364:List PySem.Stmt:=(PySem.Challenge.pw_turnery_k65_pairs_of_modes.main.body.drop 4).take 8
theorem PySem.W.Fast.te8214410412669395364:((PySem.Challenge.pw_turnery_k65_pairs_of_modes.main.body.drop 4).take 8:List PySem.Stmt)=PySem.W.Fast.tw8214410412669395364:=rfl
def PySem.W.Fast.tw6110873573252201663:List PySem.Stmt:=(PySem.Challenge.pw_turnery_k65_pairs_of_modes.main.body.drop 12).take 10
theorem PySem.W.Fast.te6110873573252201663:((PySem.Challenge.pw_turnery_k65_pairs_of_modes.main.body.drop 12).take 10:List PySem.Stmt)=PySem.W.Fast.tw6110873573252201663:=rfl
def PySem.W.Fast.tw11716238246695171172:List PySem.Stmt:=(PySem.Challenge.pw_turnery_k65_pairs_of_modes.main.body.drop 22).take 1
theorem PySem.W.Fast.te11716238246695171172:((PySem.Challenge.pw_turnery_k65_pairs_of_modes.main.body.drop 22).take 1:List PySem.Stmt)=PySem.W.Fast.tw11716238246695171172:=rfl
def PySem.W.Fast.tw8481790906964627957:List PySem.Stmt:=(PySem.Challenge.pw_turnery_k65_pairs_of_modes.main.body.drop 23).take 8
theorem PySem.W.Fast.te8481790906964627957:((PySem.Challenge.pw_turnery_k65_pairs_of_modes.main.body.drop 23).take 8:List PySem.Stmt)=PySem.W.Fast.tw8481790906964627957:=rfl
def PySem.W.Fast.tw10168016874192603801:List PySem.Stmt:=(PySem.Challenge.pw_turnery_k65_pairs_of_modes.main.body.drop 31).take 4
theorem PySem.W.Fast.te10168016874192603801:((PySem.Challenge.pw_turnery_k65_pairs_of_modes.main.body.drop 31).take 4:List PySem.Stmt)=PySem.W.Fast.tw10168016874192603801:=rfl
def PySem.W.Fast.tw12357132448814804287:List PySem.Stmt:=(PySem.Challenge.pw_turnery_k65_pairs_of_modes.main.body.drop 35).take 13
theorem PySem.W.Fast.te12357132448814804287:((PySem.Challenge.pw_turnery_k65_pairs_of_modes.main.body.drop 35).take 13:List PySem.Stmt)=PySem.W.Fast.tw12357132448814804287:=rfl
def PySem.W.Fast.tw17253900617537040490:List PySem.Stmt:=(PySem.Challenge.pw_turnery_k65_pairs_of_modes.main.body.drop 48).take 3
theorem PySem.W.Fast.te17253900617537040490:((PySem.Challenge.pw_turnery_k65_pairs_of_modes.main.body.drop 48).take 3:List PySem.Stmt)=PySem.W.Fast.tw17253900617537040490:=rfl
section
open PySem
open K65
def K65.x11(P:Params):Obj:={ cls:=Value.type "tuple",data:=Data.seq #[] }
def K65.x12(P:Params):Obj:={ cls:=vN,data:=Data.fields #[vI 1 0,vI 0 0,vR 20,vI 5 0,vI 0 0,vR 27,vI 7 0,vI 0 0,vR 40,vI 9 0,vI 0 0,vR 52,vI 12 0,vI 0 0,vR 64,vI 14 0,vI 0 0,vR 71,vI 21 0,vI 0 0,vR 76,vI 25 0,vI 0 0,vR 83,vI 28 0,vI 0 0,vR 88,vI 30 0,vI 0 0,vR 95,vI 33 0,vI 0 0,vR 100,vI 44 0,vI 0 0,vR 107,vI 50 0,vI 0 0,vR 112,vI 53 0,vI 0 0,vR 119,vI 56 0,vI 0 0,vR 126,vI 58 0,vI 0 0,vR 133,vI 61 0,vI 0 0,vR 140,vI 104 0,vI 0 0,vR 194,vI 115 0,vI 0 0,vR 201,vI 120 0,vI 0 0,vR 206,vI 123 0,vI 0 0,vR 213,vI 150 0,vI 0 0,vR 253,vI 154 0,vI 0 0,vR 260,vI 158 0,vI 0 0,vR 265,vI 171 0,vI 0 0,vR 272,vI 173 0,vI 0 0,vR 277,vI 186 0,vI 0 0,vR 282,vI 202 0,vI 0 0,vR 289,vI 209 0,vI 0 0,vR 296,vI 227 0,vI 0 0,vR 303,vI 233 0,vI 0 0,vR 310,vI 235 0,vI 0 0,vR 317,vI 248 0,vI 0 0,vR 324,vI 256 0,vI 0 0,vR 329,vI 259 0,vI 0 0,vR 334,vI 267 0,vI 0 0,vR 341,vI 274 0,vI 0 0,vR 346,vI 281 0,vI 0 0,vR 353,vI 298 0,vI 0 0,vR 358] }
def K65.x13(P:Params):Obj:={ cls:=Value.type "code",data:=Data.fields #[vS "<module>" 182,vS "<module>" 183,vS "/claim/cut.py" 184,vI 1 0,vI 0 0,vI 0 0,vI 0 0,vI 0 0,vR 11,Value.bool false,vI 181 0,vR 12,vN,vN,vN,vN,vI 185 0,vI 1 0,vS "/claim/cut.py" 186] }
def K65.x14(P:Params):Obj:={ cls:=Value.type "frame",slots:=#[some (vR 13),some (vR 3),some (vR 3),none,some (vS "__main__" 164),none,some (vR 0)] }
def K65.x19(P:Params):Obj:=W.Fast.tw3653742971343662024 P
def K65.x23(P:Params):Obj:={ cls:=Value.type "builtin_function_or_method",data:=Data.fields #[Value.builtin "type.__prepare__",Value.type "type"] }
def K65.x24(P:Params):Obj:={ cls:=Value.type "dict",data:=Data.dict #[hE P "__module__" 203 (77:),hE P "__qualname__" 205 (vS "TurnError" 204),hE P "__firstlineno__" 207 (vI 5 206),hE P "__static_attributes__" 208 (vR 29)] 4 }
def K65.x25(P:Params):Obj:={ cls:=Value.type "tuple",data:=Data.seq #[] }
def K65.x27(P:Params):Obj:={ cls:=Value.type "code",data:=Data.fields #[vS "TurnError" 198,vS "TurnError" 199,vS "/claim/cut.py" 200,vI 5 0,vI 0 0,vI 0 0,vI 0 0,vI 0 0,vR 25,Value.bool false,vI 181 0,vR 26,vN,vN,vN,vN,vI 201 0,vI 5 0,vS "/claim/cut.py" 202] }
def K65.x28(P:Params):Obj:={ cls:=Value.type "frame",slots:=#[some (vR 27),some (vR 3),some (vR 24),none,some (77:),none,some (vR 0)] }
def K65.x33(P:Params):Obj:={ cls:=Value.type "super",data:=Data.fields #[vR 31,vR 31,vR 31] }
def K65.x34(P:Params):Obj:={ cls:=Value.type "builtin_function_or_method",data:=Data.fields #[Value.builtin "object.__init_subclass__",vR 31] }
def K65.x36(P:Params):Obj:={ cls:=Value.type "builtin_function_or_method",data:=Data.fields #[Value.builtin "type.__prepare__",Value.type "type"] }
def K65.x37(P:Params):Obj:={ cls:=Value.type "dict",data:=Data.dict #[hE P "__module__" 221 (77:),hE P "__qualname__" 223 (vS "TooGreat" 222),hE P "__firstlineno__" 225 (vI 7 224),hE P "__static_attributes__" 226 (vR 42)] 4 }
def K65.x38(P:Params):Obj:={ cls:=Value.type "tuple",data:=Data.seq #[] }
def K65.x40(P:Params):Obj:={ cls:=Value.type "code",data:=Data.fields #[vS "TooGreat" 216,vS "TooGreat" 217,vS "/claim/cut.py" 218,vI 7 0,vI 0 0,vI 0 0,vI 0 0,vI 0 0,vR 38,Value.bool false,vI 181 0,vR 39,vN,vN,vN,vN,vI 219 0,vI 7 0,vS "/claim/cut.py" 220] }
def K65.x41(P:Params):Obj:={ cls:=Value.type "frame",slots:=#[some (vR 40),some (vR 3),some (vR 37),none,some (77:),none,some (vR 0)] }
def K65.x45(P:Params):Obj:={ cls:=Value.type "super",data:=Data.fields #[vR 44,vR 44,vR 44] }
def K65.x46(P:Params):Obj:={ cls:=Value.type "builtin_function_or_method",data:=Data.fields #[Value.builtin "object.__init_subclass__",vR 44] }
def K65.x48(P:Params):Obj:={ cls:=Value.type "builtin_function_or_method",data:=Data.fields #[Value.builtin "type.__prepare__",Value.type "type"] }
def K65.x49(P:Params):Obj:={ cls:=Value.type "dict",data:=Data.dict #[hE P "__module__" 237 (77:),hE P "__qualname__" 239 (vS "Strays" 238),hE P "__firstlineno__" 241 (vI 9 240),hE P "__static_attributes__" 242 (vR 54)] 4 }
def K65.x50(P:Params):Obj:={ cls:=Value.type "tuple",data:=Data.seq #[] }
def K65.x52(P:Params):Obj:={ cls:=Value.type "code",data:=Data.fields #[vS "Strays" 232,vS "Strays" 233,vS "/claim/cut.py" 234,vI 9 0,vI 0 0,vI 0 0,vI 0 0,vI 0 0,vR 50,Value.bool false,vI 181 0,vR 51,vN,vN,vN,vN,vI 235 0,vI 9 0,vS "/claim/cut.py" 236] }
def K65.x53(P:Params):Obj:={ cls:=Value.type "frame",slots:=#[some (vR 52),some (vR 3),some (vR 49),none,some (77:),none,some (vR 0)] }
def K65.x57(P:Params):Obj:={ cls:=Value.type "super",data:=Data.fields #[vR 56,vR 56,vR 56] }
def K65.x58(P:Params):Obj:={ cls:=Value.type "builtin_function_or_method",data:=Data.fields #[Value.builtin "object.__init_subclass__",vR 56] }
def K65.x63(P:Params):Obj:=W.Fast.tw9857192961412460611 P
def K65.x70(P:Params):Obj:=W.Fast.tw18193951290787813979 P
def K65.x75(P:Params):Obj:=W.Fast.tw16625364302220118054 P
def K65.x82(P:Params):Obj:=W.Fast.tw4144848435592056301 P
def K65.x87(P:Params):Obj:=W.Fast.tw1632519263333544734 P
def K65.x94(P:Params):Obj:=W.Fast.tw16264745999545321058 P
def K65.x99(P:Params):Obj:=W.Fast.tw1058399866287557903 P
def K65.x106(P:Params):Obj:=W.Fast.tw12040110245623045397 P
def K65.x111(P:Params):Obj:=W.Fast.tw17297651326452130654 P
def K65.x118(P:Params):Obj:=W.Fast.tw8311111767436394195 P
def K65.x125(P:Params):Obj:=W.Fast.tw10912372179690238871 P
def K65.x132(P:Params):Obj:=W.Fast.tw17027583721265520217 P
def K65.x135(P:Params):Obj:={ cls:=Value.type "tuple",data:=Data.seq #[] }
def K65.x136(P:Params):Obj:={ cls:=Value.type "builtin_function_or_method",data:=Data.fields #[Value.builtin "type.__prepare__",Value.type "type"] }
def K65.x137(P:Params):Obj:={ cls:=Value.type "dict",data:=Data.dict #[hE P "__module__" 353 (19:),hE P "__qualname__" 355 (vS "Demands" 354),hE P "__firstlineno__" 357 (vI 61 356),hE P "__init__" 363 (vR 146),hE P "look_by" 375 (vR 153),hE P "look" 389 (vR 160),hE P "meet_demand" 398 (vR 167),hE P "meet_fault" 406 (vR 174),hE P "tree_and_place" 413 (vR 181),hE P "__static_attributes__" 419 (vR 182)] 10 }
def K65.x138(P:Params):Obj:={ cls:=Value.type "tuple",data:=Data.seq #[] }
def K65.x139(P:Params):Obj:={ cls:=vN,data:=Data.fields #[vI 63 0,vI 4 0,vR 145,vI 75 0,vI 4 0,vR 152,vI 81 0,vI 4 0,vR 159,vI 92 0,vI 4 0,vR 166,vI 97 0,vI 4 0,vR 173,vI 101 0,vI 4 0,vR 180] }
def K65.x140(P:Params):Obj:={ cls:=Value.type "code",data:=Data.fields #[vS "Demands" 348,vS "Demands" 349,vS "/claim/cut.py" 350,vI 61 0,vI 0 0,vI 0 0,vI 0 0,vI 0 0,vR 138,Value.bool false,vI 181 0,vR 139,vN,vN,vN,vN,vI 351 0,vI 61 0,vS "/claim/cut.py" 352] }
def K65.x141(P:Params):Obj:={ cls:=Value.type "frame",slots:=#[some (vR 140),some (vR 3),some (vR 137),none,some (19:),none,some (vR 0)] }
def K65.x144(P:Params):Obj:=W.Fast.tw2008664936624064031 P
def K65.x151(P:Params):Obj:=W.Fast.tw13122193204817897432 P
def K65.x158(P:Params):Obj:=W.Fast.tw14274244976985674439 P
def K65.x165(P:Params):Obj:=W.Fast.tw9106297317971567296 P
def K65.x172(P:Params):Obj:=W.Fast.tw1557786631884187877 P
def K65.x179(P:Params):Obj:=W.Fast.tw10724078263233438570 P
def K65.x187(P:Params):Obj:={ cls:=Value.type "super",data:=Data.fields #[vR 184,vR 184,vR 184] }
def K65.x188(P:Params):Obj:={ cls:=Value.type "builtin_function_or_method",data:=Data.fields #[Value.builtin "object.__init_subclass__",vR 184] }
def K65.x193(P:Params):Obj:=W.Fast.tw6631335887233984652 P
def K65.x200(P:Params):Obj:=W.Fast.tw9957852856844087797 P
def K65.x205(P:Params):Obj:=W.Fast.tw7780661673838466334 P
def K65.x208(P:Params):Obj:={ cls:=Value.type "tuple",data:=Data.seq #[] }
def K65.x209(P:Params):Obj:={ cls:=Value.type "builtin_function_or_method",data:=Data.fields #[Value.builtin "type.__prepare__",Value.type "type"] }
def K65.x210(P:Params):Obj:={ cls:=Value.type "dict",data:=Data.dict #[hE P "__module__" 474 (33:),hE P "__qualname__" 476 (vS "TermBehind" 475),hE P "__firstlineno__" 478 (vI 123 477),hE P "__init__" 486 (vR 221),hE P "by_mode" 496 (vR 228),hE P "by_rule" 502 (vR 233),hE P "take_one" 510 (vR 240),hE P "__static_attributes__" 513 (vR 241)] 8 }
def K65.x211(P:Params):Obj:={ cls:=Value.type "tuple",data:=Data.seq #[] }
def K65.x212(P:Params):Obj:={ cls:=vN,data:=Data.fields #[vI 125 0,vI 4 0,vR 220,vI 129 0,vI 4 0,vR 227,vI 135 0,vI 4 0,vR 232,vI 143 0,vI 4 0,vR 239] }
def K65.x213(P:Params):Obj:={ cls:=Value.type "code",data:=Data.fields #[vS "TermBehind" 469,vS "TermBehind" 470,vS "/claim/cut.py" 471,vI 123 0,vI 0 0,vI 0 0,vI 0 0,vI 0 0,vR 211,Value.bool false,vI 181 0,vR 212,vN,vN,vN,vN,vI 472 0,vI 123 0,vS "/claim/cut.py" 473] }
def K65.x214(P:Params):Obj:={ cls:=Value.type "frame",slots:=#[some (vR 213),some (vR 3),some (vR 210),none,some (33:),none,some (vR 0)] }
def K65.x219(P:Params):Obj:=W.Fast.tw2395633825625594092 P
def K65.x226(P:Params):Obj:=W.Fast.tw11043176025037668839 P
def K65.x231(P:Params):Obj:=W.Fast.tw9513972404671190064 P
def K65.x238(P:Params):Obj:=W.Fast.tw16931097873198382004 P
def K65.x246(P:Params):Obj:={ cls:=Value.type "super",data:=Data.fields #[vR 243,vR 243,vR 243] }
def K65.x247(P:Params):Obj:={ cls:=Value.type "builtin_function_or_method",data:=Data.fields #[Value.builtin "object.__init_subclass__",vR 243] }
def K65.x252(P:Params):Obj:=W.Fast.tw17129276932027873104 P
def K65.x259(P:Params):Obj:=W.Fast.tw8988115588169453557 P
def K65.x264(P:Params):Obj:=W.Fast.tw7099610934863491131 P
def K65.x271(P:Params):Obj:=W.Fast.tw15092167005827376100 P
def K65.x276(P:Params):Obj:=W.Fast.tw18072098252761516109 P
def K65.x281(P:Params):Obj:=W.Fast.tw3075498546492172884 P
def K65.x288(P:Params):Obj:=W.Fast.tw9171746898961766725 P
def K65.x295(P:Params):Obj:=W.Fast.tw13273568797261988489 P
def K65.x302(P:Params):Obj:=W.Fast.tw16660718937188475335 P
def K65.x309(P:Params):Obj:=W.Fast.tw13215023469224344601 P
def K65.x316(P:Params):Obj:=W.Fast.tw7328382411692514174 P
def K65.x323(P:Params):Obj:=W.Fast.tw12862226284587002330 P
def K65.x328(P:Params):Obj:=W.Fast.tw6452199663198057761 P
def K65.x333(P:Params):Obj:=W.Fast.tw1079337937545806757 P
def K65.x340(P:Params):Obj:=W.Fast.tw529011303722722001 P
def K65.x345(P:Params):Obj:=W.Fast.tw13267216716507999396 P
def K65.x352(P:Params):Obj:=W.Fast.tw4817251743011269993 P
def K65.x357(P:Params):Obj:=W.Fast.tw12815438596071103582 P
def _root_.PySem.W.Fast.tw2163042346700336536:Params->Heap:=λP=>{ objs:=⟨[W.boot_o_0 P,W.boot_o_1 P,Obj.mk vN none (Data.dict #[]) #[],x3 P,W.boot_o_4 P,W.boot_o_5 P,W.boot_o_6 P,W.boot_o_7 P,W.boot_o_8 P,W.boot_o_9 P,W.boot_o_10 P,x11 P,x12 P,x13 P,x14 P,oT #[],oE,oT #[vS "k" 190],oT #[],x19 P,x20 P,x21 P,oT #[Value.type "ValueError"],x23 P,x24 P,x25 P,oE,x27 P,x28 P,oT #[],x30 P,x31 P,x32 P,x33 P,x34 P,oT #[vR 31],x36 P,x37 P,x38 P,oE,x40 P,x41 P,oT #[],x43 P,x44 P,x45 P,x46 P,oT #[vR 31],x48 P,x49 P,x50 P,oE,x52 P,x53 P,oT #[],x55 P,x56 P,x57 P,x58 P,oT #[],oE,oT #[vS "term" 251],oT #[],x63 P,x64 P,x65 P,oT #[],oE,x68 P,oT #[],x70 P,x71 P,x72 P,oT #[],oE,x75 P,x76 P,x77 P,oT #[],oE,oT #[vS "term" 273,vS "parts" 274],oT #[],x82 P,x83 P,x84 P,oT #[],oE,x87 P,x88 P,x89 P,oT #[],oE,oT #[vS "wood" 289,vS "kind" 290],oT #[],x94 P,x95 P,x96 P,oT #[],oE,x99 P,x100 P,x101 P,oT #[],oE,x104 P,oT #[],x106 P,x107 P,x108 P,oT #[],oE,x111 P,x112 P,x113 P,oT #[],oE,oT #[vS "wood" 324],oT #[],x118 P,x119 P,x120 P,oT #[],oE,oT #[vS "turning" 333,vS "wood" 334],oT #[],x125 P,x126 P,x127 P,oT #[],oE,oT #[vS "fault" 341,vS "spot" 342],oT #[],x132 P,x133 P,x134 P,x135 P,x136 P,x137 P,x138 P,x139 P,x140 P,x141 P,oT #[],oE,x144 P,x145 P,x146 P,oT #[],oE,x149 P,oT #[],x151 P,x152 P,x153 P,oT #[],oE,x156 P,oT #[],x158 P,x159 P,x160 P,oT #[],oE,x163 P,oT #[],x165 P,x166 P,x167 P,oT #[],oE,oT #[vS "self" 402,vS "fault" 403],oT #[],x172 P,x173 P,x174 P,oT #[],oE,oT #[vS "self" 410],oT #[],x179 P,x180 P,x181 P,x182 P,x183 P,x184 P,x185 P,x186 P,x187 P,x188 P,oT #[],oE,x191 P,oT #[],x193 P,x194 P,x195 P,oT #[],oE,x198 P,oT #[vS "one" 456,vS "other" 457],x200 P,x201 P,x202 P,oT #[],oE,x205 P,x206 P,x207 P,x208 P,x209 P,x210 P,x211 P,x212 P,x213 P,x214 P,oT #[],oE,oT #[vS "self" 482,vS "other" 483],oT #[],x219 P,x220 P,x221 P,oT #[],oE,x224 P,oT #[],x226 P,x227 P,x228 P,oT #[],oE,x231 P,x232 P,x233 P,oT #[],oE,oT #[vS "self" 506,vS "room" 507],oT #[],x238 P,x239 P,x240 P,oT #[vS "left" 511,vS "other" 512],x242 P,x243 P,x244 P,x245 P,x246 P,x247 P,oT #[],oE,x250 P,oT #[],x252 P,x253 P,x254 P,oT #[],oE,x257 P,oT #[],x259 P,x260 P,x261 P,oT #[],oE,x264 P,x265 P,x266 P,oT #[],oE,oT #[vS "_law_cell" 549],oT #[],x271 P,x272 P,x273 P,oT #[],oE,x276 P,x277 P,x278 P,oT #[],oE,x281 P,x282 P,x283 P,oT #[],oE,x286 P,oT #[],x288 P,x289 P,x290 P,oT #[],oE,x293 P,oT #[],x295 P,x296 P,x297 P,oT #[],oE,x300 P,oT #[],x302 P,x303 P,x304 P,oT #[],oE,oT #[vS "_law_found" 614],oT #[],x309 P,x310 P,x311 P,oT #[],oE,x314 P,oT #[],x316 P,x317 P,x318 P,oT #[],oE,x321 P,oT #[],x323 P,x324 P,x325 P,oT #[],oE,x328 P,x329 P,x330 P,oT #[],oE,x333 P,x334 P,x335 P,oT #[],oE,x338 P,oT #[],x340 P,x341 P,x342 P,oT #[],oE,x345 P,x346 P,x347 P,oT #[],oE,x350 P,oT #[],x352 P,x353 P,x354 P,oT #[],oE,x357 P,x358 P,x359 P]⟩ }
def _root_.PySem.W.Fast.te2163042346700336536:=@rfl _ PySem.W.Fast.tw2163042346700336536
def K65.N:W.BT:=.nil
def K65.B(o:Obj)(l r:W.BT):W.BT:=.node o l r
def _root_.PySem.W.Fast.tw10150823200047908803:Params->W.BT:=λP=>B (W.boot_o_0 P) (B (W.boot_o_1 P) (B (x3 P) (B (W.boot_o_7 P) (B (25:) (B (x31 P) (B (x63 P) (B (x127 P) (2:) N) (B (x191 P) (2:) N)) (B (x95 P) (B (x159 P) (2:) N) (B (oE) (2:) N))) (B (oT #[vR 31]) (B (oE) (B (oE) (B (x271 P) N N) N) (B (x207 P) (B (x335 P) N N) N)) (B (x111 P) (B (25:) (B (x303 P) N N) N) (B (x239 P) N N)))) (B (x23 P) (B (oE) (B (x71 P) (B (x135 P) (17:) N) (B (oT #[vS "one" 456,vS "other" 457]) (17:) N)) (B (oE) (B (x167 P) (B (x295 P) N N) N) (B (x231 P) (B (x359 P) N N) N))) (B (x55 P) (B (x87 P) (B (x151 P) (2:) N) (94:)) (B (x119 P) (B (x183 P) (B (x311 P) N N) N) (B (x247 P) N N))))) (B (x11 P) (B (x19 P) (B (oT #[vR 31]) (B (oE) (B (25:) (B (x259 P) N N) N) (B (x195 P) (B (x323 P) N N) N)) (B (x99 P) (B (x163 P) (2:) N) (B (x227 P) (2:) N))) (B (oE) (B (x83 P) (62:) (B (x211 P) (2:) N)) (B (oE) (B (x179 P) (B (oT #[vS "_law_found" 614]) N N) N) (B (x243 P) N N)))) (B (x27 P) (B (x43 P) (B (x75 P) (B (x139 P) (2:) N) (94:)) (B (x107 P) (62:) (17:))) (B (25:) (B (oE) (B (oE) (B (x283 P) N N) N) (B (x219 P) (B (x347 P) N N) N)) (B (oT #[vS "turning" 333,vS "wood" 334]) (B (x187 P) (2:) N) (2:)))))) (B (W.boot_o_5 P) (B (W.boot_o_9 P) (B (oT #[vS "k" 190]) (B (x33 P) (B (x65 P) (B (oE) (B (x257 P) N N) N) (B (x193 P) (B (x321 P) N N) N)) (B (25:) (B (25:) (B (x289 P) N N) N) (B (25:) (B (x353 P) N N) N))) (B (x49 P) (B (25:) (B (x145 P) (B (x273 P) N N) N) (B (x209 P) (17:) N)) (B (x113 P) (B (oT #[vS "self" 410]) (2:) N) (B (oT #[vS "left" 511,vS "other" 512]) N N)))) (B (x25 P) (B (x41 P) (B (25:) (B (x137 P) (B (x265 P) N N) N) (B (x201 P) (B (x329 P) N N) N)) (B (25:) (B (oE) (B (x297 P) N N) N) (B (x233 P) N N))) (B (x57 P) (B (x89 P) (B (x153 P) (B (x281 P) N N) N) (B (oT #[vS "self" 482,vS "other" 483]) (B (x345 P) N N) N)) (B (25:) (B (x185 P) (17:) N) (17:))))) (B (x13 P) (B (x21 P) (B (x37 P) (B (25:) (B (x133 P) (B (x261 P) N N) N) (B (oE) (B (x325 P) N N) N)) (B (x101 P) (B (x165 P) (B (x293 P) N N) N) (B (25:) (B (x357 P) N N) N))) (B (x53 P) (B (25:) (B (x149 P) (B (x277 P) N N) N) (B (x213 P) (B (x341 P) N N) N)) (B (25:) (B (x181 P) (B (x309 P) N N) N) (B (x245 P) N N)))) (B (25:) (B (x45 P) (B (x77 P) (B (x141 P) (B (oT #[vS "_law_cell" 549]) N N) N) (B (x205 P) (B (x333 P) N N) N)) (B (25:) (B (x173 P) (2:) N) (2:))) (B (oT #[vS "term" 251]) (B (25:) (62:) (B (x221 P) (17:) N)) (B (x125 P) (B (25:) (B (x317 P) N N) N) (B (x253 P) N N))))))) (B (Obj.mk vN none (Data.dict #[]) #[]) (B (W.boot_o_4 P) (B (W.boot_o_8 P) (B (oE) (B (x32 P) (B (x64 P) (62:) (62:)) (B (x96 P) (B (x160 P) (B (x288 P) N N) N) (B (x224 P) (B (x352 P) N N) N))) (B (x48 P) (B (oT #[vS "term" 273,vS "parts" 274]) (B (x144 P) (B (x272 P) N N) N) (B (x208 P) (2:) N)) (B (x112 P) (B (oE) (B (x304 P) N N) N) (B (x240 P) N N)))) (B (x24 P) (B (x40 P) (B (x72 P) (B (x136 P) (B (x264 P) N N) N) (B (x200 P) (B (x328 P) N N) N)) (B (x104 P) (B (25:) (B (x296 P) N N) N) (B (x232 P) N N))) (B (x56 P) (B (x88 P) (B (x152 P) (17:) N) (B (oE) (17:) N)) (B (x120 P) (B (x184 P) (2:) N) (2:))))) (B (x12 P) (B (x20 P) (B (x36 P) (B (x68 P) (B (x132 P) (B (x260 P) N N) N) (B (25:) (B (x324 P) N N) N)) (B (x100 P) (62:) (B (x228 P) (17:) N))) (B (x52 P) (B (x84 P) (B (oE) (B (x276 P) N N) N) (B (x212 P) (B (x340 P) N N) N)) (B (oT #[vS "wood" 324]) (B (x180 P) (2:) N) (B (x244 P) N N)))) (B (x28 P) (B (x44 P) (B (x76 P) (B (x140 P) (17:) N) (B (oE) (17:) N)) (B (x108 P) (B (x172 P) (B (x300 P) N N) N) (B (oT #[vS "self" 506,vS "room" 507]) N N))) (B (oE) (B (oT #[vS "wood" 289,vS "kind" 290]) (B (x156 P) (2:) N) (B (x220 P) (2:) N)) (B (25:) (B (x188 P) (B (x316 P) N N) N) (B (x252 P) N N)))))) (B (W.boot_o_6 P) (B (W.boot_o_10 P) (B (25:) (B (x34 P) (B (25:) (B (oT #[vS "fault" 341,vS "spot" 342]) (2:) N) (B (x194 P) (2:) N)) (B (oE) (B (oE) (B (x290 P) N N) N) (B (x226 P) (B (x354 P) N N) N))) (B (x50 P) (B (x82 P) (B (x146 P) (2:) N) (B (x210 P) (B (x338 P) N N) N)) (B (25:) (62:) (B (x242 P) N N)))) (B (oE) (B (25:) (B (oE) (B (x138 P) (B (x266 P) N N) N) (B (x202 P) (B (x330 P) N N) N)) (B (x106 P) (B (oT #[vS "self" 402,vS "fault" 403]) (2:) N) (2:))) (B (x58 P) (B (25:) (B (25:) (B (x282 P) N N) N) (B (25:) (B (x346 P) N N) N)) (B (oE) (B (x186 P) (B (x314 P) N N) N) (B (x250 P) N N))))) (B (x14 P) (B (oT #[Value.type "ValueError"]) (B (x38 P) (B (x70 P) (B (x134 P) (2:) N) (B (x198 P) (2:) N)) (B (25:) (B (x166 P) (2:) N) (B (oE) (B (x358 P) N N) N))) (B (25:) (B (oE) (B (25:) (B (x278 P) N N) N) (B (x214 P) (B (x342 P) N N) N)) (B (x118 P) (B (x182 P) (B (x310 P) N N) N) (B (x246 P) N N)))) (B (x30 P) (B (x46 P) (B (25:) (94:) (B (x206 P) (B (x334 P) N N) N)) (B (oE) (B (x174 P) (B (x302 P) N N) N) (B (x238 P) N N))) (B (25:) (B (x94 P) (B (x158 P) (B (x286 P) N N) N) (B (25:) (B (x350 P) N N) N)) (B (x126 P) (B (oE) (B (x318 P) N N) N) (B (x254 P) N N)))))))
def _root_.PySem.W.Fast.te10150823200047908803:=@rfl _ PySem.W.Fast.tw10150823200047908803
def K65.y3_394(P:Params):Obj:={ cls:=Value.type "dict",data:=Data.dict #[hE P "__name__" 165 mN,hE P "__doc__" 166 (vN),hE P "__package__" 167 (vN),hE P "__loader__" 168 (81:),hE P "__spec__" 169 (vN),hE P "__annotations__" 170 (vR 6),hE P "__builtins__" 171 (vR 4),hE P "__file__" 173 (vS "/claim/cut.py" 172),hE P "__cached__" 174 (vN),hE P "_wall" 193 (vR 21),hE P "TurnError" 213 (vR 31),hE P "TooGreat" 229 (vR 44),hE P "Strays" 245 (vR 56),hE P "is_call" 254 (vR 65),hE P "calls_of" 263 (vR 72),hE P "with_modes" 269 (vR 77),hE P "with_parts" 277 (vR 84),hE P "own_wood" 285 (vR 89),hE P "rows_of" 293 (vR 96),hE P "as_met" 301 (vR 101),hE P "number_calls" 312 (vR 108),hE P "numbered_mode" 318 (vR 113),hE P "row_above" 327 (vR 120),hE P "strays_at_all" 337 (vR 127),hE P "levels_needed" 345 (vR 134),hE P "Demands" 426 (vR 184),hE P "rule_of" 441 (vR 195),hE P "MOST_MODES" 445 (vI 40 444),hE P "MOST_SIZE" 447 (vI 200 446),hE P "MOST_LEVELS" 449 (vI 30 448),hE P "behind" 460 (vR 202),hE P "mode_behind" 466 (vR 207),hE P "TermBehind" 520 (vR 243),hE P "_law_cell_at" 530 (vR 254),hE P "_law_mixed" 539 (vR 261),hE P "_law_names" 545 (vR 266),hE P "_law_great" 552 (vR 273),hE P "_law_wood" 558 (vR 278),hE P "_law_typed" 564 (vR 283),hE P "_law_calls" 575 (vR 290),hE P "_law_passing" 597 (vR 297),hE P "_law_rule" 610 (vR 304),hE P "_law_whole" 617 (vR 311),hE P "_law_is_term" 625 (vR 318),hE P "_law_same" 636 (vR 325),hE P "_law_copy" 642 (vR 330),hE P "_law_on" 648 (vR 335),hE P "_law_count" 657 (vR 342)] 48 }
def K65.y12_394(P:Params):Obj:={ cls:=vN,data:=Data.fields #[vI 1 0,vI 0 0,vR 20,vI 5 0,vI 0 0,vR 27,vI 7 0,vI 0 0,vR 40,vI 9 0,vI 0 0,vR 52,vI 12 0,vI 0 0,vR 64,vI 14 0,vI 0 0,vR 71,vI 21 0,vI 0 0,vR 76,vI 25 0,vI 0 0,vR 83,vI 28 0,vI 0 0,vR 88,vI 30 0,vI 0 0,vR 95,vI 33 0,vI 0 0,vR 100,vI 44 0,vI 0 0,vR 107,vI 50 0,vI 0 0,vR 112,vI 53 0,vI 0 0,vR 119,vI 56 0,vI 0 0,vR 126,vI 58 0,vI 0 0,vR 133,vI 61 0,vI 0 0,vR 140,vI 104 0,vI 0 0,vR 194,vI 115 0,vI 0 0,vR 201,vI 120 0,vI 0 0,vR 206,vI 123 0,vI 0 0,vR 213,vI 150 0,vI 0 0,vR 253,vI 154 0,vI 0 0,vR 260,vI 158 0,vI 0 0,vR 265,vI 171 0,vI 0 0,vR 272,vI 173 0,vI 0 0,vR 277,vI 186 0,vI 0 0,vR 282,vI 202 0,vI 0 0,vR 289,vI 209 0,vI 0 0,vR 296,vI 227 0,vI 0 0,vR 303,vI 233 0,vI 0 0,vR 310,vI 235 0,vI 0 0,vR 317,vI 248 0,vI 0 0,vR 324,vI 256 0,vI 0 0,vR 329,vI 259 0,vI 0 0,vR 334,vI 267 0,vI 0 0,vR 341] }
def _root_.PySem.W.Fast.tw14530603635521162287:Params->W.BT:=λP=>B (W.boot_o_0 P) (B (W.boot_o_1 P) (B (y3_394 P) (B (W.boot_o_7 P) (B (25:) (B (x31 P) (B (x63 P) (B (x127 P) (2:) N) (B (x191 P) (2:) N)) (B (x95 P) (B (x159 P) (2:) N) (17:))) (B (oT #[vR 31]) (B (oE) (B (oE) (B (x271 P) N N) N) (B (x207 P) (B (x335 P) N N) N)) (B (x111 P) (B (25:) (B (x303 P) N N) N) (B (x239 P) N N)))) (B (x23 P) (B (oE) (B (x71 P) (B (x135 P) (17:) N) (B (oT #[vS "one" 456,vS "other" 457]) (17:) N)) (B (oE) (B (x167 P) (B (x295 P) N N) N) (B (x231 P) N N))) (B (x55 P) (B (x87 P) (B (x151 P) (2:) N) (2:)) (B (x119 P) (B (x183 P) (B (x311 P) N N) N) (B (x247 P) N N))))) (B (x11 P) (B (x19 P) (B (oT #[vR 31]) (B (oE) (B (25:) (B (x259 P) N N) N) (B (x195 P) (B (x323 P) N N) N)) (B (x99 P) (B (x163 P) (2:) N) (B (x227 P) N N))) (B (oE) (B (x83 P) (62:) (B (x211 P) (2:) N)) (B (oE) (B (x179 P) (B (oT #[vS "_law_found" 614]) N N) N) (B (x243 P) N N)))) (B (x27 P) (B (x43 P) (B (x75 P) (B (x139 P) (2:) N) (94:)) (B (x107 P) (62:) (17:))) (B (25:) (B (oE) (B (oE) (B (x283 P) N N) N) (B (x219 P) N N)) (B (oT #[vS "turning" 333,vS "wood" 334]) (B (x187 P) (2:) N) (2:)))))) (B (W.boot_o_5 P) (B (W.boot_o_9 P) (B (oT #[vS "k" 190]) (B (x33 P) (B (x65 P) (B (oE) (B (x257 P) N N) N) (B (x193 P) (B (x321 P) N N) N)) (B (25:) (B (25:) (B (x289 P) N N) N) (2:))) (B (x49 P) (B (25:) (B (x145 P) (B (x273 P) N N) N) (B (x209 P) (17:) N)) (B (x113 P) (B (oT #[vS "self" 410]) (2:) N) (B (oT #[vS "left" 511,vS "other" 512]) N N)))) (B (x25 P) (B (x41 P) (B (25:) (B (x137 P) (B (x265 P) N N) N) (B (x201 P) (B (x329 P) N N) N)) (B (25:) (B (oE) (B (x297 P) N N) N) (B (x233 P) N N))) (B (x57 P) (B (x89 P) (B (x153 P) (B (x281 P) N N) N) (B (oT #[vS "self" 482,vS "other" 483]) N N)) (B (25:) (B (x185 P) (17:) N) (17:))))) (B (x13 P) (B (x21 P) (B (x37 P) (B (25:) (B (x133 P) (B (x261 P) N N) N) (B (oE) (B (x325 P) N N) N)) (B (x101 P) (B (x165 P) (B (x293 P) N N) N) (2:))) (B (x53 P) (B (25:) (B (x149 P) (B (x277 P) N N) N) (B (x213 P) (B (x341 P) N N) N)) (B (25:) (B (x181 P) (B (x309 P) N N) N) (B (x245 P) N N)))) (B (25:) (B (x45 P) (B (x77 P) (B (x141 P) (B (oT #[vS "_law_cell" 549]) N N) N) (B (x205 P) (B (x333 P) N N) N)) (B (25:) (B (x173 P) (2:) N) (2:))) (B (oT #[vS "term" 251]) (B (25:) (62:) (B (x221 P) N N)) (B (x125 P) (B (25:) (B (x317 P) N N) N) (B (x253 P) N N))))))) (B (Obj.mk vN none (Data.dict #[]) #[]) (B (W.boot_o_4 P) (B (W.boot_o_8 P) (B (oE) (B (x32 P) (B (x64 P) (62:) (62:)) (B (x96 P) (B (x160 P) (B (x288 P) N N) N) (B (x224 P) N N))) (B (x48 P) (B (oT #[vS "term" 273,vS "parts" 274]) (B (x144 P) (B (x272 P) N N) N) (B (x208 P) (2:) N)) (B (x112 P) (B (oE) (B (x304 P) N N) N) (B (x240 P) N N)))) (B (x24 P) (B (x40 P) (B (x72 P) (B (x136 P) (B (x264 P) N N) N) (B (x200 P) (B (x328 P) N N) N)) (B (x104 P) (B (25:) (B (x296 P) N N) N) (B (x232 P) N N))) (B (x56 P) (B (x88 P) (B (x152 P) (17:) N) (17:)) (B (x120 P) (B (x184 P) (2:) N) (2:))))) (B (y12_394 P) (B (x20 P) (B (x36 P) (B (x68 P) (B (x132 P) (B (x260 P) N N) N) (B (25:) (B (x324 P) N N) N)) (B (x100 P) (62:) (B (x228 P) N N))) (B (x52 P) (B (x84 P) (B (oE) (B (x276 P) N N) N) (B (x212 P) (B (x340 P) N N) N)) (B (oT #[vS "wood" 324]) (B (x180 P) (2:) N) (B (x244 P) N N)))) (B (x28 P) (B (x44 P) (B (x76 P) (B (x140 P) (17:) N) (B (oE) (17:) N)) (B (x108 P) (B (x172 P) (B (x300 P) N N) N) (B (oT #[vS "self" 506,vS "room" 507]) N N))) (B (oE) (B (oT #[vS "wood" 289,vS "kind" 290]) (B (x156 P) (2:) N) (B (x220 P) N N)) (B (25:) (B (x188 P) (B (x316 P) N N) N) (B (x252 P) N N)))))) (B (W.boot_o_6 P) (B (W.boot_o_10 P) (B (25:) (B (x34 P) (B (25:) (B (oT #[vS "fault" 341,vS "spot" 342]) (2:) N) (B (x194 P) (2:) N)) (B (oE) (B (oE) (B (x290 P) N N) N) (B (x226 P) N N))) (B (x50 P) (B (x82 P) (B (x146 P) (2:) N) (B (x210 P) (B (x338 P) N N) N)) (B (25:) (62:) (B (x242 P) N N)))) (B (oE) (B (25:) (B (oE) (B (x138 P) (B (x266 P) N N) N) (B (x202 P) (B (x330 P) N N) N)) (B (x106 P) (B (oT #[vS "self" 402,vS "fault" 403]) (2:) N) (2:))) (B (x58 P) (B (25:) (B (25:) (B (x282 P) N N) N) (2:)) (B (oE) (B (x186 P) (B (x314 P) N N) N) (B (x250 P) N N))))) (B (x14 P) (B (oT #[Value.type "ValueError"]) (B (x38 P) (B (x70 P) (B (x134 P) (2:) N) (B (x198 P) (2:) N)) (B (25:) (B (x166 P) (2:) N) (17:))) (B (25:) (B (oE) (B (25:) (B (x278 P) N N) N) (B (x214 P) (B (x342 P) N N) N)) (B (x118 P) (B (x182 P) (B (x310 P) N N) N) (B (x246 P) N N)))) (B (x30 P) (B (x46 P) (B (25:) (94:) (B (x206 P) (B (x334 P) N N) N)) (B (oE) (B (x174 P) (B (x302 P) N N) N) (B (x238 P) N N))) (B (25:) (B (x94 P) (B (x158 P) (B (x286 P) N N) N) (2:)) (B (x126 P) (B (oE) (B (x318 P) N N) N) (B (x254 P) N N)))))))
def _root_.PySem.W.Fast.te14530603635521162287:=@rfl _ PySem.W.Fast.tw14530603635521162287
def K65.y3_311(P:Params):Obj:={ cls:=Value.type "dict",data:=Data.dict #[hE P "__name__" 165 mN,hE P "__doc__" 166 (vN),hE P "__package__" 167 (vN),hE P "__loader__" 168 (81:),hE P "__spec__" 169 (vN),hE P "__annotations__" 170 (vR 6),hE P "__builtins__" 171 (vR 4),hE P "__file__" 173 (vS "/claim/cut.py" 172),hE P "__cached__" 174 (vN),hE P "_wall" 193 (vR 21),hE P "TurnError" 213 (vR 31),hE P "TooGreat" 229 (vR 44),hE P "Strays" 245 (vR 56),hE P "is_call" 254 (vR 65),hE P "calls_of" 263 (vR 72),hE P "with_modes" 269 (vR 77),hE P "with_parts" 277 (vR 84),hE P "own_wood" 285 (vR 89),hE P "rows_of" 293 (vR 96),hE P "as_met" 301 (vR 101),hE P "number_calls" 312 (vR 108),hE P "numbered_mode" 318 (vR 113),hE P "row_above" 327 (vR 120),hE P "strays_at_all" 337 (vR 127),hE P "levels_needed" 345 (vR 134),hE P "Demands" 426 (vR 184),hE P "rule_of" 441 (vR 195),hE P "MOST_MODES" 445 (vI 40 444),hE P "MOST_SIZE" 447 (vI 200 446),hE P "MOST_LEVELS" 449 (vI 30 448),hE P "behind" 460 (vR 202),hE P "mode_behind" 466 (vR 207),hE P "TermBehind" 520 (vR 243),hE P "_law_cell_at" 530 (vR 254),hE P "_law_mixed" 539 (vR 261)] 35 }
def K65.y12_311(P:Params):Obj:={ cls:=vN,data:=Data.fields #[vI 1 0,vI 0 0,vR 20,vI 5 0,vI 0 0,vR 27,vI 7 0,vI 0 0,vR 40,vI 9 0,vI 0 0,vR 52,vI 12 0,vI 0 0,vR 64,vI 14 0,vI 0 0,vR 71,vI 21 0,vI 0 0,vR 76,vI 25 0,vI 0 0,vR 83,vI 28 0,vI 0 0,vR 88,vI 30 0,vI 0 0,vR 95,vI 33 0,vI 0 0,vR 100,vI 44 0,vI 0 0,vR 107,vI 50 0,vI 0 0,vR 112,vI 53 0,vI 0 0,vR 119,vI 56 0,vI 0 0,vR 126,vI 58 0,vI 0 0,vR 133,vI 61 0,vI 0 0,vR 140,vI 104 0,vI 0 0,vR 194,vI 115 0,vI 0 0,vR 201,vI 120 0,vI 0 0,vR 206,vI 123 0,vI 0 0,vR 213,vI 150 0,vI 0 0,vR 253,vI 154 0,vI 0 0,vR 260] }
def _root_.PySem.W.Fast.tw13816808790744814971:Params->W.BT:=λP=>B (W.boot_o_0 P) (B (W.boot_o_1 P) (B (y3_311 P) (B (W.boot_o_7 P) (B (25:) (B (x31 P) (B (x63 P) (B (x127 P) (2:) N) (B (x191 P) N N)) (B (x95 P) (B (x159 P) N N) (17:))) (B (oT #[vR 31]) (B (oE) (17:) (B (x207 P) N N)) (B (x111 P) (2:) (B (x239 P) N N)))) (B (x23 P) (B (oE) (B (x71 P) (B (x135 P) N N) (B (oT #[vS "one" 456,vS "other" 457]) N N)) (B (oE) (B (x167 P) N N) (B (x231 P) N N))) (B (x55 P) (B (x87 P) (B (x151 P) N N) (2:)) (B (x119 P) (B (x183 P) N N) (B (x247 P) N N))))) (B (x11 P) (B (x19 P) (B (oT #[vR 31]) (B (oE) (B (25:) (B (x259 P) N N) N) (B (x195 P) N N)) (B (x99 P) (B (x163 P) N N) (B (x227 P) N N))) (B (oE) (B (x83 P) (2:) (B (x211 P) N N)) (B (oE) (B (x179 P) N N) (B (x243 P) N N)))) (B (x27 P) (B (x43 P) (B (x75 P) (B (x139 P) N N) (2:)) (B (x107 P) (2:) (17:))) (B (25:) (B (oE) (17:) (B (x219 P) N N)) (B (oT #[vS "turning" 333,vS "wood" 334]) (B (x187 P) N N) (2:)))))) (B (W.boot_o_5 P) (B (W.boot_o_9 P) (B (oT #[vS "k" 190]) (B (x33 P) (B (x65 P) (B (oE) (B (x257 P) N N) N) (B (x193 P) N N)) (B (25:) (2:) (2:))) (B (x49 P) (B (25:) (B (x145 P) N N) (B (x209 P) N N)) (B (x113 P) (B (oT #[vS "self" 410]) N N) (B (oT #[vS "left" 511,vS "other" 512]) N N)))) (B (x25 P) (B (x41 P) (B (25:) (B (x137 P) N N) (B (x201 P) N N)) (B (25:) (17:) (B (x233 P) N N))) (B (x57 P) (B (x89 P) (B (x153 P) N N) (B (oT #[vS "self" 482,vS "other" 483]) N N)) (B (25:) (B (x185 P) N N) (17:))))) (B (x13 P) (B (x21 P) (B (x37 P) (B (25:) (B (x133 P) (B (x261 P) N N) N) (17:)) (B (x101 P) (B (x165 P) N N) (2:))) (B (x53 P) (B (25:) (B (x149 P) N N) (B (x213 P) N N)) (B (25:) (B (x181 P) N N) (B (x245 P) N N)))) (B (25:) (B (x45 P) (B (x77 P) (B (x141 P) N N) (B (x205 P) N N)) (B (25:) (B (x173 P) N N) (2:))) (B (oT #[vS "term" 251]) (B (25:) (2:) (B (x221 P) N N)) (B (x125 P) (2:) (B (x253 P) N N))))))) (B (Obj.mk vN none (Data.dict #[]) #[]) (B (W.boot_o_4 P) (B (W.boot_o_8 P) (B (oE) (B (x32 P) (B (x64 P) (62:) (2:)) (B (x96 P) (B (x160 P) N N) (B (x224 P) N N))) (B (x48 P) (B (oT #[vS "term" 273,vS "parts" 274]) (B (x144 P) N N) (B (x208 P) N N)) (B (x112 P) (17:) (B (x240 P) N N)))) (B (x24 P) (B (x40 P) (B (x72 P) (B (x136 P) N N) (B (x200 P) N N)) (B (x104 P) (2:) (B (x232 P) N N))) (B (x56 P) (B (x88 P) (B (x152 P) N N) (17:)) (B (x120 P) (B (x184 P) N N) (2:))))) (B (y12_311 P) (B (x20 P) (B (x36 P) (B (x68 P) (B (x132 P) (B (x260 P) N N) N) (2:)) (B (x100 P) (2:) (B (x228 P) N N))) (B (x52 P) (B (x84 P) (17:) (B (x212 P) N N)) (B (oT #[vS "wood" 324]) (B (x180 P) N N) (B (x244 P) N N)))) (B (x28 P) (B (x44 P) (B (x76 P) (B (x140 P) N N) (17:)) (B (x108 P) (B (x172 P) N N) (B (oT #[vS "self" 506,vS "room" 507]) N N))) (B (oE) (B (oT #[vS "wood" 289,vS "kind" 290]) (B (x156 P) N N) (B (x220 P) N N)) (B (25:) (B (x188 P) N N) (B (x252 P) N N)))))) (B (W.boot_o_6 P) (B (W.boot_o_10 P) (B (25:) (B (x34 P) (B (25:) (B (oT #[vS "fault" 341,vS "spot" 342]) (2:) N) (B (x194 P) N N)) (B (oE) (17:) (B (x226 P) N N))) (B (x50 P) (B (x82 P) (B (x146 P) N N) (B (x210 P) N N)) (B (25:) (2:) (B (x242 P) N N)))) (B (oE) (B (25:) (B (oE) (B (x138 P) N N) (B (x202 P) N N)) (B (x106 P) (B (oT #[vS "self" 402,vS "fault" 403]) N N) (2:))) (B (x58 P) (B (25:) (2:) (2:)) (B (oE) (B (x186 P) N N) (B (x250 P) N N))))) (B (x14 P) (B (oT #[Value.type "ValueError"]) (B (x38 P) (B (x70 P) (B (x134 P) N N) (B (x198 P) N N)) (B (25:) (B (x166 P) N N) (17:))) (B (25:) (B (oE) (2:) (B (x214 P) N N)) (B (x118 P) (B (x182 P) N N) (B (x246 P) N N)))) (B (x30 P) (B (x46 P) (B (25:) (2:) (B (x206 P) N N)) (B (oE) (B (x174 P) N N) (B (x238 P) N N))) (B (25:) (B (x94 P) (B (x158 P) N N) (2:)) (B (x126 P) (17:) (B (x254 P) N N)))))))
def _root_.PySem.W.Fast.te13816808790744814971:=@rfl _ PySem.W.Fast.tw13816808790744814971
def K65.y3_255(P:Params):Obj:={ cls:=Value.type "dict",data:=Data.dict #[hE P "__name__" 165 (33:),hE P "__doc__" 166 (vN),hE P "__package__" 167 (vN),hE P "__loader__" 168 (81:),hE P "__spec__" 169 (vN),hE P "__annotations__" 170 (vR 6),hE P "__builtins__" 171 (vR 4),hE P "__file__" 173 (vS "/claim/cut.py" 172),hE P "__cached__" 174 (vN),hE P "_wall" 193 (vR 21),hE P "TurnError" 213 (vR 31),hE P "TooGreat" 229 (vR 44),hE P "Strays" 245 (vR 56),hE P "is_call" 254 (vR 65),hE P "calls_of" 263 (vR 72),hE P "with_modes" 269 (vR 77),hE P "with_parts" 277 (vR 84),hE P "own_wood" 285 (vR 89),hE P "rows_of" 293 (vR 96),hE P "as_met" 301 (vR 101),hE P "number_calls" 312 (vR 108),hE P "numbered_mode" 318 (vR 113),hE P "row_above" 327 (vR 120),hE P "strays_at_all" 337 (vR 127),hE P "levels_needed" 345 (vR 134),hE P "Demands" 426 (vR 184),hE P "rule_of" 441 (vR 195),hE P "MOST_MODES" 445 (vI 40 444),hE P "MOST_SIZE" 447 (vI 200 446),hE P "MOST_LEVELS" 449 (vI 30 448),hE P "behind" 460 (vR 202),hE P "mode_behind" 466 (vR 207)] 32 }
def K65.y12_255(P:Params):Obj:={ cls:=vN,data:=Data.fields #[vI 1 0,vI 0 0,vR 20,vI 5 0,vI 0 0,vR 27,vI 7 0,vI 0 0,vR 40,vI 9 0,vI 0 0,vR 52,vI 12 0,vI 0 0,vR 64,vI 14 0,vI 0 0,vR 71,vI 21 0,vI 0 0,vR 76,vI 25 0,vI 0 0,vR 83,vI 28 0,vI 0 0,vR 88,vI 30 0,vI 0 0,vR 95,vI 33 0,vI 0 0,vR 100,vI 44 0,vI 0 0,vR 107,vI 50 0,vI 0 0,vR 112,vI 53 0,vI 0 0,vR 119,vI 56 0,vI 0 0,vR 126,vI 58 0,vI 0 0,vR 133,vI 61 0,vI 0 0,vR 140,vI 104 0,vI 0 0,vR 194,vI 115 0,vI 0 0,vR 201,vI 120 0,vI 0 0,vR 206] }
def _root_.PySem.W.Fast.tw3647490944143359764:Params->W.BT:=λP=>B (W.boot_o_0 P) (B (W.boot_o_1 P) (B (y3_255 P) (B (W.boot_o_7 P) (B (25:) (B (x31 P) (B (x63 P) (B (x127 P) N N) (B (x191 P) N N)) (B (x95 P) (B (x159 P) N N) N)) (B (oT #[vR 31]) (B (oE) (17:) (B (x207 P) N N)) (B (x111 P) (2:) N))) (B (x23 P) (B (oE) (B (x71 P) (B (x135 P) N N) (B (oT #[vS "one" 456,vS "other" 457]) N N)) (B (oE) (B (x167 P) N N) N)) (B (x55 P) (B (x87 P) (B (x151 P) N N) N) (B (x119 P) (B (x183 P) N N) N)))) (B (x11 P) (B (x19 P) (B (oT #[vR 31]) (B (oE) (2:) (B (x195 P) N N)) (B (x99 P) (B (x163 P) N N) N)) (B (oE) (B (x83 P) (2:) N) (B (oE) (B (x179 P) N N) N))) (B (x27 P) (B (x43 P) (B (x75 P) (B (x139 P) N N) (2:)) (B (x107 P) (2:) N)) (B (25:) (B (oE) (17:) N) (B (oT #[vS "turning" 333,vS "wood" 334]) (B (x187 P) N N) N))))) (B (W.boot_o_5 P) (B (W.boot_o_9 P) (B (oT #[vS "k" 190]) (B (x33 P) (B (x65 P) (17:) (B (x193 P) N N)) (94:)) (B (x49 P) (B (25:) (B (x145 P) N N) N) (B (x113 P) (B (oT #[vS "self" 410]) N N) N))) (B (x25 P) (B (x41 P) (B (25:) (B (x137 P) N N) (B (x201 P) N N)) (62:)) (B (x57 P) (B (x89 P) (B (x153 P) N N) N) (B (25:) (B (x185 P) N N) N)))) (B (x13 P) (B (x21 P) (B (x37 P) (B (25:) (B (x133 P) N N) (17:)) (B (x101 P) (B (x165 P) N N) N)) (B (x53 P) (B (25:) (B (x149 P) N N) N) (B (25:) (B (x181 P) N N) N))) (B (25:) (B (x45 P) (B (x77 P) (B (x141 P) N N) (B (x205 P) N N)) (B (25:) (B (x173 P) N N) N)) (B (oT #[vS "term" 251]) (94:) (B (x125 P) (2:) N)))))) (B (Obj.mk vN none (Data.dict #[]) #[]) (B (W.boot_o_4 P) (B (W.boot_o_8 P) (B (oE) (B (x32 P) (B (x64 P) (2:) (2:)) (B (x96 P) (B (x160 P) N N) N)) (B (x48 P) (B (oT #[vS "term" 273,vS "parts" 274]) (B (x144 P) N N) N) (B (x112 P) (17:) N))) (B (x24 P) (B (x40 P) (B (x72 P) (B (x136 P) N N) (B (x200 P) N N)) (B (x104 P) (2:) N)) (B (x56 P) (B (x88 P) (B (x152 P) N N) N) (B (x120 P) (B (x184 P) N N) N)))) (B (y12_255 P) (B (x20 P) (B (x36 P) (B (x68 P) (B (x132 P) N N) (2:)) (B (x100 P) (2:) N)) (B (x52 P) (B (x84 P) (17:) N) (B (oT #[vS "wood" 324]) (B (x180 P) N N) N))) (B (x28 P) (B (x44 P) (B (x76 P) (B (x140 P) N N) (17:)) (B (x108 P) (B (x172 P) N N) N)) (B (oE) (B (oT #[vS "wood" 289,vS "kind" 290]) (B (x156 P) N N) N) (B (25:) (B (x188 P) N N) N))))) (B (W.boot_o_6 P) (B (W.boot_o_10 P) (B (25:) (B (x34 P) (B (25:) (B (oT #[vS "fault" 341,vS "spot" 342]) N N) (B (x194 P) N N)) (B (oE) (17:) N)) (B (x50 P) (B (x82 P) (B (x146 P) N N) N) (94:))) (B (oE) (B (25:) (B (oE) (B (x138 P) N N) (B (x202 P) N N)) (B (x106 P) (B (oT #[vS "self" 402,vS "fault" 403]) N N) N)) (B (x58 P) (94:) (B (oE) (B (x186 P) N N) N)))) (B (x14 P) (B (oT #[Value.type "ValueError"]) (B (x38 P) (B (x70 P) (B (x134 P) N N) (B (x198 P) N N)) (B (25:) (B (x166 P) N N) N)) (B (25:) (B (oE) (2:) N) (B (x118 P) (B (x182 P) N N) N))) (B (x30 P) (B (x46 P) (B (25:) (2:) (B (x206 P) N N)) (B (oE) (B (x174 P) N N) N)) (B (25:) (B (x94 P) (B (x158 P) N N) N) (B (x126 P) (17:) N))))))
def _root_.PySem.W.Fast.te3647490944143359764:=@rfl _ PySem.W.Fast.tw3647490944143359764
def K65.y3_234(P:Params):Obj:={ cls:=Value.type "dict",data:=Data.dict #[hE P "__name__" 165 (19:),hE P "__doc__" 166 (vN),hE P "__package__" 167 (vN),hE P "__loader__" 168 (81:),hE P "__spec__" 169 (vN),hE P "__annotations__" 170 (vR 6),hE P "__builtins__" 171 (vR 4),hE P "__file__" 173 (vS "/claim/cut.py" 172),hE P "__cached__" 174 (vN),hE P "_wall" 193 (vR 21),hE P "TurnError" 213 (vR 31),hE P "TooGreat" 229 (vR 44),hE P "Strays" 245 (vR 56),hE P "is_call" 254 (vR 65),hE P "calls_of" 263 (vR 72),hE P "with_modes" 269 (vR 77),hE P "with_parts" 277 (vR 84),hE P "own_wood" 285 (vR 89),hE P "rows_of" 293 (vR 96),hE P "as_met" 301 (vR 101),hE P "number_calls" 312 (vR 108),hE P "numbered_mode" 318 (vR 113),hE P "row_above" 327 (vR 120),hE P "strays_at_all" 337 (vR 127),hE P "levels_needed" 345 (vR 134),hE P "Demands" 426 (vR 184)] 26 }
def K65.y12_234(P:Params):Obj:={ cls:=vN,data:=Data.fields #[vI 1 0,vI 0 0,vR 20,vI 5 0,vI 0 0,vR 27,vI 7 0,vI 0 0,vR 40,vI 9 0,vI 0 0,vR 52,vI 12 0,vI 0 0,vR 64,vI 14 0,vI 0 0,vR 71,vI 21 0,vI 0 0,vR 76,vI 25 0,vI 0 0,vR 83,vI 28 0,vI 0 0,vR 88,vI 30 0,vI 0 0,vR 95,vI 33 0,vI 0 0,vR 100,vI 44 0,vI 0 0,vR 107,vI 50 0,vI 0 0,vR 112,vI 53 0,vI 0 0,vR 119,vI 56 0,vI 0 0,vR 126,vI 58 0,vI 0 0,vR 133,vI 61 0,vI 0 0,vR 140] }
def _root_.PySem.W.Fast.tw15109512998269964777:Params->W.BT:=λP=>B (W.boot_o_0 P) (B (W.boot_o_1 P) (B (y3_234 P) (B (W.boot_o_7 P) (B (25:) (B (x31 P) (B (x63 P) (B (x127 P) N N) N) (B (x95 P) (B (x159 P) N N) N)) (B (oT #[vR 31]) (B (oE) (17:) N) (B (x111 P) (2:) N))) (B (x23 P) (B (oE) (B (x71 P) (B (x135 P) N N) N) (B (oE) (B (x167 P) N N) N)) (B (x55 P) (B (x87 P) (B (x151 P) N N) N) (B (x119 P) (B (x183 P) N N) N)))) (B (x11 P) (B (x19 P) (B (oT #[vR 31]) (B (oE) (2:) N) (B (x99 P) (B (x163 P) N N) N)) (B (oE) (B (x83 P) (2:) N) (B (oE) (B (x179 P) N N) N))) (B (x27 P) (B (x43 P) (B (x75 P) (B (x139 P) N N) N) (B (x107 P) (2:) N)) (B (25:) (B (oE) (17:) N) (B (oT #[vS "turning" 333,vS "wood" 334]) (B (x187 P) N N) N))))) (B (W.boot_o_5 P) (B (W.boot_o_9 P) (B (oT #[vS "k" 190]) (B (x33 P) (B (x65 P) (17:) N) (94:)) (B (x49 P) (B (25:) (B (x145 P) N N) N) (B (x113 P) (B (oT #[vS "self" 410]) N N) N))) (B (x25 P) (B (x41 P) (B (25:) (B (x137 P) N N) N) (62:)) (B (x57 P) (B (x89 P) (B (x153 P) N N) N) (B (25:) (B (x185 P) N N) N)))) (B (x13 P) (B (x21 P) (B (x37 P) (B (25:) (B (x133 P) N N) N) (B (x101 P) (B (x165 P) N N) N)) (B (x53 P) (B (25:) (B (x149 P) N N) N) (B (25:) (B (x181 P) N N) N))) (B (25:) (B (x45 P) (B (x77 P) (B (x141 P) N N) N) (B (25:) (B (x173 P) N N) N)) (B (oT #[vS "term" 251]) (94:) (B (x125 P) N N)))))) (B (Obj.mk vN none (Data.dict #[]) #[]) (B (W.boot_o_4 P) (B (W.boot_o_8 P) (B (oE) (B (x32 P) (B (x64 P) (2:) N) (B (x96 P) (B (x160 P) N N) N)) (B (x48 P) (B (oT #[vS "term" 273,vS "parts" 274]) (B (x144 P) N N) N) (B (x112 P) (17:) N))) (B (x24 P) (B (x40 P) (B (x72 P) (B (x136 P) N N) N) (B (x104 P) (2:) N)) (B (x56 P) (B (x88 P) (B (x152 P) N N) N) (B (x120 P) (B (x184 P) N N) N)))) (B (y12_234 P) (B (x20 P) (B (x36 P) (B (x68 P) (B (x132 P) N N) N) (B (x100 P) (2:) N)) (B (x52 P) (B (x84 P) (17:) N) (B (oT #[vS "wood" 324]) (B (x180 P) N N) N))) (B (x28 P) (B (x44 P) (B (x76 P) (B (x140 P) N N) N) (B (x108 P) (B (x172 P) N N) N)) (B (oE) (B (oT #[vS "wood" 289,vS "kind" 290]) (B (x156 P) N N) N) (B (25:) (B (x188 P) N N) N))))) (B (W.boot_o_6 P) (B (W.boot_o_10 P) (B (25:) (B (x34 P) (B (25:) (B (oT #[vS "fault" 341,vS "spot" 342]) N N) N) (B (oE) (17:) N)) (B (x50 P) (B (x82 P) (B (x146 P) N N) N) (94:))) (B (oE) (B (25:) (B (oE) (B (x138 P) N N) N) (B (x106 P) (B (oT #[vS "self" 402,vS "fault" 403]) N N) N)) (B (x58 P) (94:) (B (oE) (B (x186 P) N N) N)))) (B (x14 P) (B (oT #[Value.type "ValueError"]) (B (x38 P) (B (x70 P) (B (x134 P) N N) N) (B (25:) (B (x166 P) N N) N)) (B (25:) (B (oE) (2:) N) (B (x118 P) (B (x182 P) N N) N))) (B (x30 P) (B (x46 P) (94:) (B (oE) (B (x174 P) N N) N)) (B (25:) (B (x94 P) (B (x158 P) N N) N) (B (x126 P) N N))))))
def _root_.PySem.W.Fast.te15109512998269964777:=@rfl _ PySem.W.Fast.tw15109512998269964777
end
open PySem PySem.W PyProof.Rows
set_option maxRecDepth 100000 in
set_option maxHeartbeats 0 in
theorem PySem.Challenge.cw_turnery_k65_pairs_of_modes_holds : PySem.Challenge.rw_turnery_k65_pairs_of_modes.Holds := by
 w_on;o_law;k_head;(case hw=>w_witness2)
 k_fill
 refine K65.walk (c1:=201) (T1:=197) (l:=PySem.Challenge.rw_turnery_k65_pairs_of_modes) rfl rfl (λw h Y=>PySem.W.km_in_of Y) ?tb1 ?F
 case tb1=>
  intro w;refine' L2.TabAt.mk ⟨_,?a⟩ ?b ?c ?d;(case a=>exact rfl);(case b=>kernel_rfl);(case c=>kernel_rfl);(case d=>kernel_rfl)
 case F=>
  intro w mg fa h KX G hmg;refine' K65.all_mk (c1:=201) (T1:=197) KX G hmg ?d1 ?d2 ?d3 ?d4 ?d5 ?d6 ?d7 ?d8 ?d9 ?d10 ?d11 ?d12 ?d13 ?d14 ?d15 ?d16 ?d17 ?d18 ?d19 ?d20 ?d21 ?d22 ?d23 ?d24 ?d25 ?d26 ?d27 ?d28 ?d29 ?d30 ?d31 ?d32 ?d33 ?z1 ?z2 ?z3 ?z4 ?z5 ?z6 ?z7 ?z8 ?z9 ?z10 ?z11 ?z12 ?z13 ?ht1 ?hh1 ?gA ?gB ?gC ?gN ?gS ?qa ?qb ?kN ?s1 ?s2
  (case ht1=>kernel_rfl);(case hh1=>kernel_rfl)
  (case d1=>refine' L2.DefAt.mk' ?a ?l ?c ?k;(case a=>k_is);(case l=>k_is);(case c=>k_is);(case k=>k_is))
  (case d2=>refine' L2.DefAt.mk' ?a ?l ?c ?k;(case a=>k_is);(case l=>k_is);(case c=>k_is);(case k=>k_is))
  (case d3=>refine' L2.DefAt.mk' ?a ?l ?c ?k;(case a=>k_is);(case l=>k_is);(case c=>k_is);(case k=>k_is))
  (case d4=>refine' L2.DefAt.mk' ?a ?l ?c ?k;(case a=>k_is);(case l=>k_is);(case c=>k_is);(case k=>k_is))
  (case d5=>refine' L2.DefAt.mk' ?a ?l ?c ?k;(case a=>k_is);(case l=>k_is);(case c=>k_is);(case k=>k_is))
  (case d6=>refine' L2.DefAt.mk' ?a ?l ?c ?k;(case a=>k_is);(case l=>k_is);(case c=>k_is);(case k=>k_is))
  (case d7=>refine' L2.DefAt.mk' ?a ?l ?c ?k;(case a=>k_is);(case l=>k_is);(case c=>k_is);(case k=>k_is))
  (case d8=>refine' L2.DefAt.mk' ?a ?l ?c ?k;(case a=>k_is);(case l=>k_is);(case c=>k_is);(case k=>k_is))
  (case d9=>refine' L2.DefAt.mk' ?a ?l ?c ?k;(case a=>k_is);(case l=>k_is);(case c=>k_is);(case k=>k_is))
  (case d10=>refine' L2.DefAt.mk' ?a ?l ?c ?k;(case a=>k_is);(case l=>k_is);(case c=>k_is);(case k=>k_is))
  (case d11=>refine' L2.DefAt.mk' ?a ?l ?c ?k;(case a=>k_is);(case l=>k_is);(case c=>k_is);(case k=>k_is))
  (case d12=>refine' L2.DefAt.mk' ?a ?l ?c ?k;(case a=>k_is);(case l=>k_is);(case c=>k_is);(case k=>k_is))
  (case d13=>refine' L2.DefAt.mk' ?a ?l ?c ?k;(case a=>k_is);(case l=>k_is);(case c=>k_is);(case k=>k_is))
  (case d14=>refine' L2.DefAt.mk' ?a ?l ?c ?k;(case a=>k_is);(case l=>k_is);(case c=>k_is);(case k=>k_is))
  (case d15=>refine' L2.DefAt.mk' ?a ?l ?c ?k;(case a=>k_is);(case l=>k_is);(case c=>k_is);(case k=>k_is))
  (case d16=>refine' L2.DefAt.mk' ?a ?l ?c ?k;(case a=>k_is);(case l=>k_is);(case c=>k_is);(case k=>k_is))
  (case d17=>refine' L2.DefAt.mk' ?a ?l ?c ?k;(case a=>k_is);(case l=>k_is);(case c=>k_is);(case k=>k_is))
  (case d18=>refine' L2.DefAt.mk' ?a ?l ?c ?k;(case a=>k_is);(case l=>k_is);(case c=>k_is);(case k=>k_is))
  (case d19=>refine' L2.DefAt.mk' ?a ?l ?c ?k;(case a=>k_is);(case l=>k_is);(case c=>k_is);(case k=>k_is))
  (case d20=>refine' L2.DefAt.mk' ?a ?l ?c ?k;(case a=>k_is);(case l=>k_is);(case c=>k_is);(case k=>k_is))
  (case d21=>refine' L2.DefAt.mk' ?a ?l ?c ?k;(case a=>k_is);(case l=>k_is);(case c=>k_is);(case k=>k_is))
  (case d22=>refine' L2.DefAt.mk' ?a ?l ?c ?k;(case a=>k_is);(case l=>k_is);(case c=>k_is);(case k=>k_is))
  (case d23=>refine' L2.DefAt.mk' ?a ?l ?c ?k;(case a=>k_is);(case l=>k_is);(case c=>k_is);(case k=>k_is))
  (case d24=>refine' L2.DefAt.mk' ?a ?l ?c ?k;(case a=>k_is);(case l=>k_is);(case c=>k_is);(case k=>k_is))
  (case d25=>refine' L2.DefAt.mk' ?a ?l ?c ?k;(case a=>k_is);(case l=>k_is);(case c=>k_is);(case k=>k_is))
  (case d26=>refine' L2.DefAt.mk' ?a ?l ?c ?k;(case a=>k_is);(case l=>k_is);(case c=>k_is);(case k=>k_is))
  (case d27=>refine' L2.DefAt.mk' ?a ?l ?c ?k;(case a=>k_is);(case l=>k_is);(case c=>k_is);(case k=>k_is))
  (case d28=>refine' L2.DefAt.mk' ?a ?l ?c ?k;(case a=>k_is);(case l=>k_is);(case c=>k_is);(case k=>k_is))
  (case d29=>refine' L2.DefAt.mk' ?a ?l ?c ?k;(case a=>k_is);(case l=>k_is);(case c=>k_is);(case k=>k_is))
  (case d30=>refine' L2.DefAt.mk' ?a ?l ?c ?k;(case a=>k_is);(case l=>k_is);(case c=>k_is);(case k=>k_is))
  (case d31=>refine' L2.DefAt.mk' ?a ?l ?c ?k;(case a=>k_is);(case l=>k_is);(case c=>k_is);(case k=>k_is))
  (case d32=>refine' L2.DefAt.mk' ?a ?l ?c ?k;(case a=>k_is);(case l=>k_is);(case c=>k_is);(case k=>k_is))
  (case d33=>refine' L2.DefAt.mk' ?a ?l ?c ?k;(case a=>k_is);(case l=>k_is);(case c=>k_is);(case k=>k_is))
  (case z1=>k_is);(case z2=>k_is);(case z3=>k_is);(case z4=>k_is);(case z5=>k_is);(case z6=>k_is);(case z7=>k_is);(case z8=>k_is);(case z9=>k_is);(case z10=>k_is);(case z11=>k_is);(case z12=>k_is);(case z13=>k_is)
  (case gA=>k_is)
  (case gB=>k_is)
  (case gC=>k_is)
  (case gN=>k_is)
  (case gS=>k_is)
  (case qa=>kernel_rfl)
  (case qb=>kernel_rfl)
  (case kN=>kernel_rfl)
  case s1=>
   refine' K65.DmK.mk' ?aC ?pg ?hd ?po ?sa ?n1 ?n2 ?n3 ?n4 ?n5 ?mk ?kc ?m1 ?m2 ?m3 ?m4 ?m5
   (case aC=>k_is);(case pg=>k_is);(case hd=>k_is);(case po=>k_is);(case sa=>k_is);(case n1=>k_is);(case n2=>k_is);(case n3=>k_is);(case n4=>k_is);(case n5=>k_is);(case mk=>k_is);(case kc=>k_is)
   (case m1=>refine' L2.MethAt.mk' ?a ?i ?l ?c ?k;(case a=>k_is);(case i=>k_is);(case l=>k_is);(case c=>k_is);(case k=>k_is))
   (case m2=>refine' L2.MethAt.mk' ?a ?i ?l ?c ?k;(case a=>k_is);(case i=>k_is);(case l=>k_is);(case c=>k_is);(case k=>k_is))
   (case m3=>refine' L2.MethAt.mk' ?a ?i ?l ?c ?k;(case a=>k_is);(case i=>k_is);(case l=>k_is);(case c=>k_is);(case k=>k_is))
   (case m4=>refine' L2.MethAt.mk' ?a ?i ?l ?c ?k;(case a=>k_is);(case i=>k_is);(case l=>k_is);(case c=>k_is);(case k=>k_is))
   (case m5=>refine' L2.MethAt.mk' ?a ?i ?l ?c ?k;(case a=>k_is);(case i=>k_is);(case l=>k_is);(case c=>k_is);(case k=>k_is))
  case s2=>
   refine' K65.TbK.mk' ?aC ?pg ?hd ?po ?sa ?n1 ?n2 ?mk ?kc ?m1 ?m2 ?m3 ?m4
   (case aC=>k_is);(case pg=>k_is);(case hd=>k_is);(case po=>k_is);(case sa=>k_is);(case n1=>k_is);(case n2=>k_is);(case mk=>k_is);(case kc=>k_is)
   (case m1=>refine' L2.MethAt.mk' ?a ?i ?l ?c ?k;(case a=>k_is);(case i=>k_is);(case l=>k_is);(case c=>k_is);(case k=>k_is))
   (case m2=>refine' L2.MethAt.mk' ?a ?i ?l ?c ?k;(case a=>k_is);(case i=>k_is);(case l=>k_is);(case c=>k_is);(case k=>k_is))
   (case m3=>refine' L2.MethAt.mk' ?a ?i ?l ?c ?k;(case a=>k_is);(case i=>k_is);(case l=>k_is);(case c=>k_is);(case k=>k_is))
   (case m4=>refine' L2.MethAt.mk' ?a ?i ?l ?c ?k;(case a=>k_is);(case i=>k_is);(case l=>k_is);(case c=>k_is);(case k=>k_is))
